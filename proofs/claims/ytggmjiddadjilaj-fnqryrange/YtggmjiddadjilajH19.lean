/-
  PROVED HERE: what the model's GrdOf answers at a drawn table: its cells at their places, or nothing where it is not ok; nothing that was in memory is turned. Also: a grid of the call's own while one of its numbers is written, for the drawing of grids: it stays a grid, its numbers stay within 64 bits, and nothing else is turned but the reader.
-/
import Derived.Test.YtggmjiddadjilajH18
import Derived.Test.YtggmjiddadjilajH17
import Derived.Test.YtggmjiddadjilajH13
namespace Go.Proofs.Ytggmjiddadjilaj
open Go.RowKit

set_option maxRecDepth 100000 in
set_option maxHeartbeats 1000000 in
theorem specGrdOf (ac ar:Option Addr) (cc cr:Nat) (t:T) (hD:Drawn t) (w:World) {z:Nat} (hc:ColsAt w z (.slice ac t.cols.length cc) t.cols) (hr:RowsAt w z (.slice ar t.rows.length cr) t.rows) :
  Calls Try.prog 69 #[.agg #[.slice ac t.cols.length cc,.int .i64 t.head,.int .i64 t.foot,.slice ar t.rows.length cr,.int .i64 t.gap]] w fun e w'=>∃ vg,e=.returned (.agg #[.int .i64 (gOf t).rows,.int .i64 (gOf t).cols,vg])∧OwnG w' w.heap.size vg (gOf t).cells∧Below w.heap.size w w':=by
 obtain ⟨W0,hW0⟩:∃ W0,(w.alloc (.cells #[.slice ac t.cols.length cc,.int .i64 t.head,.int .i64 t.foot,.slice ar t.rows.length cr,.int .i64 t.gap] 37)).alloc (.cells #[.int .i64 0,.int .i64 0,.slice none 0 0] 25)=W0:=⟨_,rfl⟩
 have K0:Below w.heap.size w W0:=by rw [← hW0];exact k_alloc (k_alloc (Below.refl _ _) _) _
 have hz0:W0.heap.size=w.heap.size+2:=by rw [← hW0];simp
 have T0:W0.heap[w.heap.size]?=some (.cells #[.slice ac t.cols.length cc,.int .i64 t.head,.int .i64 t.foot,.slice ar t.rows.length cr,.int .i64 t.gap] 37):=by rw [← hW0];exact (Below.heap_alloc _ _ _ (by simp)).trans (newestB _ _)
 have X0:W0.heap[w.heap.size+1]?=some (.cells #[.int .i64 0,.int .i64 0,.slice none 0 0] 25):=by
  have:=newestB (w.alloc (.cells #[.slice ac t.cols.length cc,.int .i64 t.head,.int .i64 t.foot,.slice ar t.rows.length cr,.int .i64 t.gap] 37)) (.cells #[.int .i64 0,.int .i64 0,.slice none 0 0] 25)
  rw [hW0] at this
  simpa using this
 have KO:=Hid.intro (specTblOk ac ar cc cr t W0 (hc.kept K0) (hr.kept K0))
 have HR:=Hid.intro hr
 obtain ⟨⟨t0,t1,t2,t3,t4⟩,_⟩:=fiveT T0
 clear hc hr
 cases htk:tblB t with
 | false =>
  rw [htk] at KO
  have hg:gOf t=⟨0,0,[]⟩:=by unfold gOf;rw [if_neg (by rw [htk];simp)]
  have HG:=Hid.intro hg
  clear htk hg hD
  go_enter Try.func69,Try.ntmps69
  go_wp2_with fail
  refine KO.out.mono ?_
  rintro e w1 ⟨rfl,hb1⟩
  have X1:=blk_kept X0 hb1
  have K1:=k_trans K0 hb1
  obtain ⟨⟨x0,x1,x2⟩,y0,y1,y2⟩:=threeZ X1
  have HB:=Hid.intro (((K1.setCell (p:=⟨w.heap.size+1,0,none⟩) (by show _≤w.heap.size+1;omega) (.int .i64 0)).setCell (p:=⟨w.heap.size+1,1,none⟩) (by show _≤w.heap.size+1;omega) (.int .i64 0)).setCell (p:=⟨w.heap.size+1,2,none⟩) (by show _≤w.heap.size+1;omega) (.slice none 0 0))
  clear hb1 K1 X1 KO hW0 t0 t1 t2 t3 t4
  go_wp2
  exact bodyPost_ret (v:=.agg #[.int .i64 0,.int .i64 0,.slice none 0 0]) (by simp [results,Try.results69,go_sem,x0,x1,x2]) rfl ⟨.slice none 0 0,by rw [HG.out],by rw [HG.out];exact ⟨rfl,.inl ⟨rfl,rfl⟩⟩,HB.out⟩
 | true =>
  rw [htk] at KO
  have hg:gOf t=⟨t.rows.length,colsOf (max 1 (t.cols.length:Int)) (gridOf t),gridOf t⟩:=by unfold gOf;rw [if_pos htk]
  have HG:=Hid.intro hg
  have HLow:=Hid.intro (low_of htk hD)
  clear htk hg hD
  go_enter Try.func69,Try.ntmps69
  go_wp2_with fail
  refine KO.out.mono ?_
  rintro e w1 ⟨rfl,hb1⟩
  have X1:=blk_kept X0 hb1
  have T1:=blk_kept T0 hb1
  have K1:=k_trans K0 hb1
  obtain ⟨⟨s0,s1,s2,s3,s4⟩,_⟩:=fiveT T1
  clear KO hW0 t0 t1 t2 t3 t4
  go_wp2_with fail
  refine (l3Of_any ac ar cc cr t HLow.out w1 (HR.out.kept K1)).mono ?_
  rintro e w2 ⟨vg,rfl,hO2,hb2⟩
  have X2:=blk_kept X1 hb2
  have K2:=k_trans K1 hb2
  obtain ⟨va,vq,rfl,_⟩:=row_form hO2
  obtain ⟨⟨x0,x1,x2⟩,y0,y1,y2⟩:=threeZ X2
  have h1:=setB (p:=0) X2 (.int .i64 (t.rows.length:Int))
  have h2:=setB (p:=1) h1 (.int .i64 (colsOf (max 1 (t.cols.length:Int)) (gridOf t)))
  have o1:=row_set (p:=0) hO2 X2 (by decide) (.int .i64 (t.rows.length:Int))
  have o2:=row_set (p:=1) o1 h1 (by decide) (.int .i64 (colsOf (max 1 (t.cols.length:Int)) (gridOf t)))
  have o3:=row_set (p:=2) o2 h2 (by decide) (.slice va (gridOf t).length vq)
  have hz1:w.heap.size≤w1.heap.size:=K1.size
  have HO:=Hid.intro (row_base o3 hz1)
  have HB:=Hid.intro (((K2.setCell (p:=⟨w.heap.size+1,0,none⟩) (by show _≤w.heap.size+1;omega) (.int .i64 (t.rows.length:Int))).setCell (p:=⟨w.heap.size+1,1,none⟩) (by show _≤w.heap.size+1;omega) (.int .i64 (colsOf (max 1 (t.cols.length:Int)) (gridOf t)))).setCell (p:=⟨w.heap.size+1,2,none⟩) (by show _≤w.heap.size+1;omega) (.slice va (gridOf t).length vq))
  clear h1 h2 o1 o2 o3 hO2 hb2 X2 K2 s0 s1 s2 s3 s4 X1 T1 K1 hb1 X0 T0
  generalize hC:colsOf (max 1 (t.cols.length:Int)) (gridOf t)=C at HG HO HB ⊢
  clear hC
  go_wp2
  exact bodyPost_ret (v:=.agg #[.int .i64 (t.rows.length:Int),.int .i64 C,.slice va (gridOf t).length vq]) (by simp [results,Try.results69,go_sem,x0,x1,x2]) rfl ⟨_,by rw [HG.out],by rw [HG.out];exact HO.out,HB.out⟩
end Go.Proofs.Ytggmjiddadjilaj
namespace Go.Proofs.Ytggmjiddadjilaj
open Go.RowKit

theorem rp_take {α:Type} (f:α→List Value) (sz:Nat) (hf:∀ x,(f x).length=sz) (l:List α) (arr:Array Value) (h:∀ i,(hi:i < l.length)→∀ j,j < sz→arr[i * sz+j]?=(f l[i])[j]?):arr.toList.take (l.length * sz)=l.flatMap f:=by
 apply List.ext_getElem?
 intro q
 by_cases hq:q < l.length * sz
 ·have hsz:0 < sz:=by
   rcases Nat.eq_zero_or_pos sz with h | h
   ·subst h;simp at hq
   ·exact h
  have hi:q / sz < l.length:=Nat.div_lt_of_lt_mul (by rw [Nat.mul_comm];exact hq)
  have hj:q % sz < sz:=Nat.mod_lt _ hsz
  have e:q / sz * sz+q % sz=q:=by rw [Nat.mul_comm];exact Nat.div_add_mod q sz
  have h1:=h (q / sz) hi (q % sz) hj
  have h2:=flat_get f sz hf l (q / sz) hi (q % sz) hj
  rw [e] at h1 h2
  rw [List.getElem?_take_of_lt hq,Array.getElem?_toList,h1,h2]
 ·rw [List.getElem?_eq_none (by simp only [List.length_take];omega),List.getElem?_eq_none (by rw [flat_len f sz hf];omega)]
theorem rp_put {α:Type} (f:α→List Value) (sz:Nat) (hf:∀ x,(f x).length=sz) {w:World} {B g cap n:Nat} {e:TypeId} {cs:List α} (hn:cs.length=n) (h:w.ownsRow B e sz (.slice (some ⟨g,0,none⟩) n cap) n (cs.flatMap f)) {a j:Nat} (ha:a < cs.length) (hj:j < sz) {x:α} {v:Value} (hx:f x=(f cs[a]).set j v) :
  (w.setCell ⟨g,a * sz+j,none⟩ v).ownsRow B e sz (.slice (some ⟨g,0,none⟩) n cap) n ((cs.set a x).flatMap f):=by
 subst hn
 rcases h.2 with ⟨e,_⟩ | ⟨g',cap',cur,e,hg,hc,a1,a2,a3,a4⟩
 ·simp at e
 ·simp only [Value.slice.injEq,Option.some.injEq,Addr.mk.injEq,and_true,true_and] at e
  obtain ⟨rfl,rfl⟩:=e
  refine ⟨by rw [flat_len f sz hf,List.length_set],.inr ⟨g,cap,cur.setIfInBounds (a * sz+j) v,rfl,hg,setB hc _,a1,a2,by rw [Array.size_setIfInBounds];exact a3,?_⟩⟩
  have hlt:∀ i m,i < cs.length→m < sz→i * sz+m < cs.length * sz:=fun i m hi hm=>by
   have:(i+1) * sz≤cs.length * sz:=Nat.mul_le_mul_right sz hi
   rw [Nat.succ_mul] at this
   omega
  have hle:cs.length * sz≤cap * sz:=Nat.mul_le_mul_right sz a1
  rw [show cs.length * sz=(cs.set a x).length * sz by rw [List.length_set]]
  refine rp_take f sz hf (cs.set a x) (cur.setIfInBounds (a * sz+j) v) (fun i hi0 m hm=>?_)
  have hi:i < cs.length:=by rw [List.length_set] at hi0;exact hi0
  have hold:cur[i * sz+m]?=(f cs[i])[m]?:=by
   have e:=flat_get f sz hf cs i hi m hm
   rw [← a4,List.getElem?_take_of_lt (hlt i m hi hm),Array.getElem?_toList] at e
   exact e
  by_cases hia:i=a
  ·subst hia
   rw [List.getElem_set_self,hx]
   by_cases hmj:m=j
   ·subst hmj
    rw [Array.getElem?_setIfInBounds_self_of_lt (by rw [a3];have:=hlt i m hi hm;omega),List.getElem?_set_self (by rw [hf];exact hm)]
   ·rw [Array.getElem?_setIfInBounds_ne (by omega),List.getElem?_set_ne (by omega)]
    exact hold
  ·have hne:a * sz+j ≠ i * sz+m:=fun e=>by
    have h1:(a * sz+j) / sz=a:=by rw [Nat.mul_comm,Nat.mul_add_div (by omega),Nat.div_eq_of_lt hj,Nat.add_zero]
    have h2:(i * sz+m) / sz=i:=by rw [Nat.mul_comm,Nat.mul_add_div (by omega),Nat.div_eq_of_lt hm,Nat.add_zero]
    rw [e] at h1
    omega
   rw [List.getElem_set_ne (by omega),Array.getElem?_setIfInBounds_ne hne]
   exact hold

/-- a cell's numbers, and its row is not 99 -/
def GOk9 (x:GC):Prop:=GOk x∧x.row ≠ 99
theorem gOf_gok9 {t:T} (hD:Drawn t):∀ x ∈ (gOf t).cells,GOk9 x:=fun x hx=>⟨gOf_gok hD x hx,by
 cases h:tblB t with
 | false=>rw [gOf_no h] at hx;cases hx
 | true =>
  have hl:=low_of h hD
  have h8:=hl.rows
  rw [gOf_ok h] at hx
  have hf:=fits_stands hl hx
  simp only [fitsB,inB,Bool.and_eq_true,decide_eq_true_eq] at hf
  omega⟩
/-- a grid of the call's own, its box and the result's -/
structure GrS (w0:World) (r gb zb n:Nat) (R C:Int) (va:Option Addr) (vq:Nat) (gs:List GC) (W:World):Prop where
 lt:r < w0.heap.size
 hg:w0.heap.size≤gb
 hz:w0.heap.size≤zb
 ne:gb ≠ zb
 len:gs.length=n
 bk:Bk r w0 W
 gbx:W.heap[gb]?=some (.cells #[.int .i64 R,.int .i64 C,.slice va n vq] 25)
 zbx:W.heap[zb]?=some (.cells #[.int .i64 0,.int .i64 0,.slice none 0 0] 25)
 own:W.ownsRow w0.heap.size 29 5 (.slice va n vq) n (gs.flatMap gcVs)
 gok:∀ x ∈ gs,GOk9 x
theorem GrS.on {w0:World} {r gb zb n:Nat} {R C:Int} {va:Option Addr} {vq:Nat} {gs:List GC} {W W':World} (h:GrS w0 r gb zb n R C va vq gs W) (k:Bk r W W'):GrS w0 r gb zb n R C va vq gs W' :=
 ⟨h.lt,h.hg,h.hz,h.ne,h.len,h.bk.trans k,(k.block gb (Array.getElem?_eq_some_iff.1 h.gbx).1 (by have:=h.lt;have:=h.hg;omega)).trans h.gbx,(k.block zb (Array.getElem?_eq_some_iff.1 h.zbx).1 (by have:=h.lt;have:=h.hz;omega)).trans h.zbx,row_bk h.own k h.lt,h.gok⟩
theorem GrS.setR {w0:World} {r gb zb n:Nat} {R C:Int} {va:Option Addr} {vq:Nat} {gs:List GC} {W:World} (h:GrS w0 r gb zb n R C va vq gs W) (z:Int):GrS w0 r gb zb n z C va vq gs (W.setCell ⟨gb,0,none⟩ (.int .i64 z)) :=
 ⟨h.lt,h.hg,h.hz,h.ne,h.len,h.bk.set (p:=⟨gb,0,none⟩) (.inr h.hg) _,(setB h.gbx _).trans (by simp),(Below.heap_setCell _ _ _ _ (fun e=>h.ne e.symm)).trans h.zbx,row_set h.own h.gbx (by decide) _,h.gok⟩
theorem GrS.setC {w0:World} {r gb zb n:Nat} {R C:Int} {va:Option Addr} {vq:Nat} {gs:List GC} {W:World} (h:GrS w0 r gb zb n R C va vq gs W) (z:Int):GrS w0 r gb zb n R z va vq gs (W.setCell ⟨gb,1,none⟩ (.int .i64 z)) :=
 ⟨h.lt,h.hg,h.hz,h.ne,h.len,h.bk.set (p:=⟨gb,1,none⟩) (.inr h.hg) _,(setB h.gbx _).trans (by simp),(Below.heap_setCell _ _ _ _ (fun e=>h.ne e.symm)).trans h.zbx,row_set h.own h.gbx (by decide) _,h.gok⟩
theorem GrS.blk {w0:World} {r gb zb n:Nat} {R C:Int} {va:Option Addr} {vq:Nat} {gs:List GC} {W:World} (h:GrS w0 r gb zb n R C va vq gs W) (hn:0 < n):∃ g cur,va=some ⟨g,0,none⟩∧w0.heap.size≤g∧g ≠ gb∧g ≠ zb∧n≤vq∧vq≤maxLen∧W.heap[g]?=some (.cells cur 29)∧n * 5≤cur.size:=by
 rcases h.own.2 with ⟨_,e⟩ | ⟨g,cap,cur,e,hg,hc,a1,a2,a3,_⟩
 ·omega
 ·simp only [Value.slice.injEq,true_and] at e
  obtain ⟨rfl,rfl⟩:=e
  refine ⟨g,cur,rfl,hg,fun e=>?_,fun e=>?_,a1,a2,hc,by rw [a3];omega⟩
  ·subst e;have:=hc.symm.trans h.gbx;simp at this
  ·subst e;have:=hc.symm.trans h.zbx;simp at this
theorem set_gok {gs:List GC} (h:∀ x ∈ gs,GOk9 x) (k:Nat) {y:GC} (hy:GOk9 y):∀ x ∈ gs.set k y,GOk9 x:=fun x hx=>by
 rcases List.mem_or_eq_of_mem_set hx with hx | rfl
 ·exact h x hx
 ·exact hy
theorem GrS.setG {w0:World} {r gb zb n g:Nat} {R C:Int} {vq:Nat} {gs:List GC} {W:World} (h:GrS w0 r gb zb n R C (some ⟨g,0,none⟩) vq gs W) {k j:Nat} (hk:k < n) (hj:j < 5) {y:GC} {v:Value} (hy:gcVs y=(gcVs (gs.getD k dG)).set j v) (hy2:GOk9 y) :
  GrS w0 r gb zb n R C (some ⟨g,0,none⟩) vq (gs.set k y) (W.setCell ⟨g,k * 5+j,none⟩ v):=by
 obtain ⟨g',cur,e,hg,h1,h2,_⟩:=h.blk (by omega)
 simp only [Option.some.injEq,Addr.mk.injEq,and_true] at e
 subst e
 have hl:=h.len
 refine ⟨h.lt,h.hg,h.hz,h.ne,by rw [List.length_set];exact hl,h.bk.set (p:=⟨g,k * 5+j,none⟩) (.inr hg) _,(Below.heap_setCell _ _ _ _ (fun e=>h1 e.symm)).trans h.gbx,(Below.heap_setCell _ _ _ _ (fun e=>h2 e.symm)).trans h.zbx,?_,set_gok h.gok k hy2⟩
 exact rp_put gcVs 5 (fun _=>rfl) hl h.own (by omega) hj (by rw [hy,getD_get dG (by omega)])
theorem GrS.frz {w0:World} {r gb zb n g:Nat} {R C:Int} {vq:Nat} {gs:List GC} {W:World} (h:GrS w0 r gb zb n R C (some ⟨g,0,none⟩) vq gs W) (hn:0 < n) (p:Nat):W.frozen? ⟨g,p,none⟩=false:=by
 obtain ⟨g',cur,e,_,_,_,_,_,hc,_⟩:=h.blk hn
 simp only [Option.some.injEq,Addr.mk.injEq,and_true] at e
 subst e
 exact freeB hc
theorem GrS.cel {w0:World} {r gb zb n g:Nat} {R C:Int} {vq:Nat} {gs:List GC} {W:World} (h:GrS w0 r gb zb n R C (some ⟨g,0,none⟩) vq gs W) {k j:Nat} (hk:k < n) (hj:j < 5):W.cell? ⟨g,k * 5+j,none⟩=(gcVs (gs.getD k dG))[j]?:=by
 have hl:=h.len
 have e:=flat_get gcVs 5 (fun _=>rfl) gs k (by omega) j hj
 rw [getD_get dG (by omega)]
 have:j < (gcVs gs[k]).length:=hj
 rw [row_cell h.own (u:=(gcVs gs[k])[j]) (by rw [e];simp)]
 simp
/-- a grid of the call's own whose cells have been appended to, ahead of the store of the new list -/
structure GrA (w0:World) (r gb zb n:Nat) (R C:Int) (va:Option Addr) (vq:Nat) (v:Value) (gs:List GC) (W:World):Prop where
 lt:r < w0.heap.size
 hg:w0.heap.size≤gb
 hz:w0.heap.size≤zb
 ne:gb ≠ zb
 len:gs.length=n+1
 bk:Bk r w0 W
 gbx:W.heap[gb]?=some (.cells #[.int .i64 R,.int .i64 C,.slice va n vq] 25)
 zbx:W.heap[zb]?=some (.cells #[.int .i64 0,.int .i64 0,.slice none 0 0] 25)
 own:W.ownsRow w0.heap.size 29 5 v (n+1) (gs.flatMap gcVs)
 gok:∀ x ∈ gs,GOk9 x
theorem GrS.app {w0:World} {r gb zb n g:Nat} {R C:Int} {vq:Nat} {gs:List GC} {W W':World} (h:GrS w0 r gb zb n R C (some ⟨g,0,none⟩) vq gs W) (hn:0 < n) {y:GC} (hy:GOk9 y) {v:Value} (ho:W'.ownsRow w0.heap.size 29 5 v (n+1) (gs.flatMap gcVs ++ gcVs y)) (k:W.grownBy W' (Value.slice (some ⟨g,0,none⟩) n vq).ownBlock) :
  GrA w0 r gb zb n R C (some ⟨g,0,none⟩) vq v (gs ++ [y]) W':=by
 obtain ⟨g',cur,e,hg,h1,h2,_⟩:=h.blk hn
 simp only [Option.some.injEq,Addr.mk.injEq,and_true] at e
 subst e
 have hl:=h.len
 refine ⟨h.lt,h.hg,h.hz,h.ne,by simp [hl],h.bk.grown k (fun i e=>?_),blk_grown h.gbx k (fun e=>?_),blk_grown h.zbx k (fun e=>?_),by rw [List.flatMap_append];simpa using ho,fun x hx=>?_⟩
 ·simp only [Value.ownBlock,Option.some.injEq] at e;omega
 ·simp only [Value.ownBlock,Option.some.injEq] at e;omega
 ·simp only [Value.ownBlock,Option.some.injEq] at e;omega
 ·rcases List.mem_append.1 hx with hx | hx
  ·exact h.gok x hx
  ·rw [List.mem_singleton] at hx;subst hx;exact hy
theorem GrS.rdApp {w0:World} {r gb zb n g B:Nat} {R C:Int} {vq:Nat} {gs:List GC} {W W':World} (h:GrS w0 r gb zb n R C (some ⟨g,0,none⟩) vq gs W) (hn:0 < n) (hR:Rd W r B) (k:W.grownBy W' (Value.slice (some ⟨g,0,none⟩) n vq).ownBlock):Rd W' r B:=by
 obtain ⟨g',cur,e,hg,h1,h2,_⟩:=h.blk hn
 simp only [Option.some.injEq,Addr.mk.injEq,and_true] at e
 subst e
 refine hR.grown k (fun i e=>?_)
 simp only [Value.ownBlock,Option.some.injEq] at e
 have:=h.lt
 omega
theorem GrA.put {w0:World} {r gb zb n:Nat} {R C:Int} {va a:Option Addr} {vq c:Nat} {gs:List GC} {W:World} (h:GrA w0 r gb zb n R C va vq (.slice a (n+1) c) gs W):GrS w0 r gb zb (n+1) R C a c gs (W.setCell ⟨gb,2,none⟩ (.slice a (n+1) c)) :=
 ⟨h.lt,h.hg,h.hz,h.ne,h.len,h.bk.set (p:=⟨gb,2,none⟩) (.inr h.hg) _,(setB h.gbx _).trans (by simp),(Below.heap_setCell _ _ _ _ (fun e=>h.ne e.symm)).trans h.zbx,row_set h.own h.gbx (by decide) _,h.gok⟩
theorem grid_i64 {t:T} (hD:Drawn t):I64 (gOf t).rows∧I64 (gOf t).cols∧-10≤(gOf t).rows∧(gOf t).rows≤50∧-10≤(gOf t).cols∧(gOf t).cols≤1000:=by
 cases h:tblB t with
 | false=>rw [gOf_no h];simp [I64]
 | true =>
  have hl:=low_of h hD
  have h8:=hl.rows
  have hc:t.cols.length≤8:=by
   simp only [tblB,colsB,Bool.and_eq_true,decide_eq_true_eq] at h
   omega
  have hcb:=cols_bounds hl hc
  rw [gOf_ok h]
  dsimp only [I64]
  omega
theorem grid_few {t:T} (hD:Drawn t):(gOf t).cells.length≤40:=by
 cases h:tblB t with
 | false=>rw [gOf_no h];simp
 | true =>
  rw [gOf_ok h]
  have h40:=grid_len (low_of h hD) t.rows.length
  have h8:=(low_of h hD).rows
  show (gridTo t t.rows.length).length≤40
  omega
/-- some grid of n cells, its box and the result's -/
def GrE (w0:World) (r gb zb n:Nat) (W:World):Prop:=∃ R C va vq gs,GrS w0 r gb zb n R C va vq gs W∧I64 R∧I64 C
/-- the answer's form -/
def GridPost (r B:Nat) (w:World) (e:Ending) (w':World):Prop :=
 ∃ (va:Option Addr) (vq:Nat) (g:G),e=.returned (.agg #[.int .i64 g.rows,.int .i64 g.cols,.slice va g.cells.length vq])∧GsAt w' w.heap.size (.slice va g.cells.length vq) g.cells∧I64 g.rows∧I64 g.cols∧g.cells.length≤41∧Rd w' r (B+3000)∧Bk r w w'∧∀ x ∈ g.cells,x.row ≠ 99
theorem GrS.post {w0:World} {r gb zb n B B':Nat} {R C:Int} {va:Option Addr} {vq:Nat} {gs:List GC} {W:World} (h:GrS w0 r gb zb n R C va vq gs W) (hR:Rd W r B') (hB:B'≤B+3000) (hn:n≤41) (hI:I64 R) (hC:I64 C) :
  GridPost r B w0 (.returned (.agg #[.int .i64 R,.int .i64 C,.slice va n vq])) (((W.setCell ⟨zb,0,none⟩ (.int .i64 R)).setCell ⟨zb,1,none⟩ (.int .i64 C)).setCell ⟨zb,2,none⟩ (.slice va n vq)):=by
 have hl:=h.len
 have h0:=h.zbx
 have h1:=setB (p:=0) h0 (.int .i64 R)
 have h2:=setB (p:=1) h1 (.int .i64 C)
 have o1:=row_set (p:=0) h.own h0 (by decide) (.int .i64 R)
 have o2:=row_set (p:=1) o1 h1 (by decide) (.int .i64 C)
 have o3:=row_set (p:=2) o2 h2 (by decide) (.slice va n vq)
 have hr:r < zb:=by have:=h.lt;have:=h.hz;omega
 refine ⟨va,vq,⟨R,C,gs⟩,by dsimp only;rw [hl],?_,hI,hC,by dsimp only;omega,((hR.mono hB).set (p:=⟨zb,0,none⟩) hr _ |>.set (p:=⟨zb,1,none⟩) hr _).set (p:=⟨zb,2,none⟩) hr _,((h.bk.set (p:=⟨zb,0,none⟩) (.inr h.hz) _).set (p:=⟨zb,1,none⟩) (.inr h.hz) _).set (p:=⟨zb,2,none⟩) (.inr h.hz) _,fun x hx=>(h.gok x hx).2⟩
 subst hl
 exact OwnG.at (gs:=gs) o3 (fun x hx=>(h.gok x hx).1)
theorem run_bs1 (W:World) (a b c d e:Int):(Instr.buildSlice 23 1 #[(0,.agg #[.int .i64 a,.int .i64 b,.int .i64 c,.int .i64 d,.int .i64 e])]).run Try.prog W=.ok (.slice (some ⟨W.heap.size,0,none⟩) 1 1) (W.alloc (.cells #[.int .i64 a,.int .i64 b,.int .i64 c,.int .i64 d,.int .i64 e] 29)):=by
 kernel_rfl
theorem wp_bs1 {P:Program} {o:Oper} {a:Act} {w:World} {K:Act→World→Prop} {Q:Exit→Act→World→Prop} (t:TypeId) (x:Operand) (ho:o.op=.buildSlice t 1 #[(0,x)]) (v u:Value) (w':World) (hx:a.eval x=v) (hr:(Instr.buildSlice t 1 #[(0,v)]).run P w=.ok u w') (h:K (a.put o.dst u) w'):o.wp P a w K Q:=by
 unfold Oper.wp execOp
 simp only [ho,List.map_toArray,List.map_cons,List.map_nil,hx,Sem.run_bind,hr,Result.andThen_ok,Sem.run_pure]
 exact h
end Go.Proofs.Ytggmjiddadjilaj
