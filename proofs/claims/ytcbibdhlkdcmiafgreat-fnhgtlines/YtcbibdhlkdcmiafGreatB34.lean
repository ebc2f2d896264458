/-
  PROVED HERE: columns made wide enough for all cells of a drawn table's grid, as lists: first for those over one column, then over two, and so on; what is known of each cell. Also: no cell is cramped, as lists: when columns were made wide enough for all cells, each cell's columns are together, with what stands between, as wide as it needs at least; and no column was made less wide. Also: small facts for columns that are made wide enough: slices of columns, noughts, the table and its grid in their boxes. Also: how wide columns are at least, as lists: wide enough for all cells, and what is said of them. Also: how wide columns would be, as lists: wide enough for all texts in one line, and no less than at least. Also: how wide columns are, as lists: at least, and what is left to parts, to others up to what they would be, and the rest alike; all of the width is used, and no column is less wide than at least. Also: how wide columns are, if the table may be so wide: a list. Also: the lines of each cell of a grid, as lists: how many, how long.
-/
import Derived.Test.YtcbibdhlkdcmiafGreatB26
import Derived.Test.YtcbibdhlkdcmiafGreatB33
import Derived.Test.YtcbibdhlkdcmiafGreatB24
import Derived.Test.YtcbibdhlkdcmiafGreatB9
import Derived.Test.YtcbibdhlkdcmiafGreatB13
import Derived.Laws.BitsLemmas
namespace Go.Proofs.YtcbibdhlkdcmiafGreat
open Go.RowKit

/-- the first k cells over s columns -/
def passTo (p:GC→Int) (gap s:Int) (gs:List GC) (l:List Int):Nat→List Int
 | 0=>l
 | k+1=>if (gs.getD k dG).cols=s then wideL (passTo p gap s gs l k) (gs.getD k dG).col.toNat (gs.getD k dG).cols.toNat gap (p (gs.getD k dG)) else passTo p gap s gs l k
/-- cells over one column, .. over s -/
def needTo (p:GC→Int) (gap:Int) (gs:List GC) (l:List Int):Nat→List Int
 | 0=>l
 | s+1=>passTo p gap ((s+1:Nat):Int) gs (needTo p gap gs l s) gs.length
theorem passTo_len (p:GC→Int) (gap s:Int) (gs:List GC) (l:List Int):∀ k,(passTo p gap s gs l k).length=l.length
 | 0=>rfl
 | k+1=>by rw [passTo];split;rw [wideL_len];exact passTo_len p gap s gs l k;exact passTo_len p gap s gs l k
theorem needTo_len (p:GC→Int) (gap:Int) (gs:List GC) (l:List Int):∀ s,(needTo p gap gs l s).length=l.length
 | 0=>rfl
 | s+1=>by rw [needTo,passTo_len,needTo_len p gap gs l s]
/-- the text of a cell at its place -/
def textOf (t:T) (x:GC):ByteArray:=((t.rows.getD x.row.toNat dR).cells.getD x.ins.toNat dC).s
/-- what is known of a cell -/
structure Cel (t:T) (C:Nat) (x:GC):Prop where
 ex:∃ rn jn cn mn:Nat,x.row=rn∧x.ins=jn∧x.col=cn∧x.cols=mn∧rn < t.rows.length∧jn < (t.rows.getD rn dR).cells.length∧cn+mn≤C∧1≤mn∧mn≤4
 gap:0≤t.gap∧t.gap≤3
 rows:0≤x.rows∧x.rows≤8
theorem cel_of {t:T} (hD:Drawn t):(gOf t).cells.length≤40∧∃ C:Nat,(gOf t).cols=C∧C≤88∧∀ k,k < (gOf t).cells.length→Cel t C ((gOf t).cells.getD k dG):=by
 cases h:tblB t with
 | false=>rw [gOf_no h];exact ⟨by simp,0,rfl,by omega,fun k hk=>absurd hk (Nat.not_lt_zero _)⟩
 | true =>
  have hl:=low_of h hD
  have h8:=hl.rows
  have h40:=grid_len hl t.rows.length
  have hg:0≤t.gap∧t.gap≤3:=by
   simp only [tblB,inB,Bool.and_eq_true,decide_eq_true_eq] at h
   exact h.2.2.1
  have hc:t.cols.length≤8:=by
   simp only [tblB,colsB,Bool.and_eq_true,decide_eq_true_eq] at h
   omega
  have hcb:=cols_bounds hl hc
  rw [gOf_ok h]
  refine ⟨by show (gridTo t t.rows.length).length≤40;omega,(colsOf (max 1 (t.cols.length:Int)) (gridOf t)).toNat,by show colsOf (max 1 (t.cols.length:Int)) (gridOf t)=_;omega,by omega,fun k hk=>⟨?_,hg,?_⟩⟩
  ·have hk':k < (gridOf t).length:=hk
   obtain ⟨r,j,hr,hj,e⟩:=(laid_of hl hk').ex
   have hst:=stands_of hl (getD_mem' (d:=dG) hk')
   have hm:=colsOf_mem (m:=max 1 (t.cols.length:Int)) (getD_mem' (d:=dG) hk')
   have e1:((gridOf t).getD k dG).row=r:=by rw [e];rfl
   have e2:((gridOf t).getD k dG).ins=j:=by rw [e];rfl
   unfold Stands at hst
   show ∃ rn jn cn mn:Nat,((gridOf t).getD k dG).row=rn∧((gridOf t).getD k dG).ins=jn∧((gridOf t).getD k dG).col=cn∧((gridOf t).getD k dG).cols=mn∧_
   refine ⟨r,j,((gridOf t).getD k dG).col.toNat,((gridOf t).getD k dG).cols.toNat,e1,e2,by omega,by omega,hr,hj,by omega,by omega,by omega⟩
  ·have hk':k < (gridOf t).length:=hk
   have hst:=stands_of hl (getD_mem' (d:=dG) hk')
   unfold Stands at hst
   show 0≤((gridOf t).getD k dG).rows∧((gridOf t).getD k dG).rows≤8
   omega
theorem pass_up {t:T} {C:Nat} {gs:List GC} {p:GC→Int} {l:List Int} {B s:Int} (hC:∀ k,k < gs.length→Cel t C (gs.getD k dG)) (hl:l.length=C) (hp:∀ x,p x≤30) (hb:UpB l B) (hB:B+30 * gs.length≤50000):∀ k,k≤gs.length→UpB (passTo p t.gap s gs l k) (B+30 * (k:Int))
 | 0,_=>by intro i hi;have:=hb i hi;show 0≤l.getD i 0∧l.getD i 0≤_;omega
 | k+1,hk=>by
  have ih:=pass_up (s:=s) hC hl hp hb hB k (by omega)
  have hx:=hC k (by omega)
  rw [passTo]
  split
  ·obtain ⟨rn,jn,cn,mn,e1,e2,e3,e4,h1,h2,h3,h4,h5⟩:=hx.ex
   rw [e3,e4,Int.toNat_natCast,Int.toNat_natCast]
   have:=wideL_upB ih (by omega) (by rw [passTo_len,hl];exact h3) ⟨h4,h5⟩ hx.gap (hp (gs.getD k dG)) (c:=cn) (m:=mn)
   intro i hi
   have:=this i hi
   omega
  ·intro i hi
   have:=ih i hi
   omega
theorem need_up {t:T} {C:Nat} {gs:List GC} {p:GC→Int} {l:List Int} (hC:∀ k,k < gs.length→Cel t C (gs.getD k dG)) (h40:gs.length≤40) (hl:l.length=C) (hp:∀ x,p x≤30) (hb:UpB l 0):∀ s,s≤4→UpB (needTo p t.gap gs l s) (1200 * (s:Int))
 | 0,_=>by intro i hi;have:=hb i hi;show 0≤l.getD i 0∧l.getD i 0≤_;omega
 | s+1,hs=>by
  have ih:=need_up hC h40 hl hp hb s (by omega)
  have:=pass_up (s:=((s+1:Nat):Int)) hC (by rw [needTo_len];exact hl) hp ih (by omega) gs.length (Nat.le_refl _)
  intro i hi
  have:=this i hi
  rw [needTo]
  omega
end Go.Proofs.YtcbibdhlkdcmiafGreat
namespace Go.Proofs.YtcbibdhlkdcmiafGreat
open Go.RowKit

/-- no number is less -/
def LeL (a b:List Int):Prop:=a.length=b.length∧∀ i,i < a.length→a.getD i 0≤b.getD i 0
theorem LeL.refl (a:List Int):LeL a a:=⟨rfl,fun _ _=>Int.le_refl _⟩
theorem LeL.trans {a b c:List Int} (h:LeL a b) (k:LeL b c):LeL a c:=⟨h.1.trans k.1,fun i hi=>Int.le_trans (h.2 i hi) (k.2 i (by rw [← h.1];exact hi))⟩
theorem sum_le:∀ {a b:List Int},LeL a b→a.sum≤b.sum
 | [],[],_=>Int.le_refl _
 | [],_ :: _,h=>absurd h.1 (by simp)
 | _ :: _,[],h=>absurd h.1 (by simp)
 | x :: a,y :: b,h=>by
  have h0:=h.2 0 (by simp)
  have:=sum_le (a:=a) (b:=b) ⟨by have:=h.1;simpa using this,fun i hi=>by have:=h.2 (i+1) (by simpa using hi);simpa using this⟩
  simp at h0
  rw [List.sum_cons,List.sum_cons]
  omega
theorem LeL.sub {a b:List Int} (h:LeL a b) {c m:Nat} (hc:c+m≤a.length):LeL (subL a c m) (subL b c m):=by
 have hb:c+m≤b.length:=by rw [← h.1];exact hc
 refine ⟨by rw [subL_len hc,subL_len hb],fun i hi=>?_⟩
 rw [subL_len hc] at hi
 rw [subL_get hc hi,subL_get hb hi]
 exact h.2 _ (by omega)
theorem sum_zip:∀ (a b:List Int),a.length=b.length→(List.zipWith (·+·) a b).sum=a.sum+b.sum
 | [],[],_=>by simp
 | [],_ :: _,h=>absurd h (by simp)
 | _ :: _,[],h=>absurd h (by simp)
 | x :: a,y :: b,h=>by
  rw [List.zipWith_cons_cons,List.sum_cons,List.sum_cons,List.sum_cons,sum_zip a b (by simpa using h)]
  omega
theorem ext_get {a b:List Int} (h:a.length=b.length) (hh:∀ i,i < a.length→a.getD i 0=b.getD i 0):a=b:=by
 apply List.ext_getElem h
 intro i h1 h2
 have:=hh i h1
 simpa [List.getD,h1,h2] using this
theorem sub_addTo {l more:List Int} {c m:Nat} (hc:c+m≤l.length) (hm:more.length=m):subL (addTo l c more m) c m=List.zipWith (·+·) (subL l c m) more:=by
 have hc':c+m≤(addTo l c more m).length:=by rw [addTo_len];exact hc
 refine ext_get (by rw [subL_len hc',List.length_zipWith,subL_len hc,hm];omega) (fun i hi=>?_)
 rw [subL_len hc'] at hi
 rw [subL_get hc' hi,addTo_in l c more m hi (by omega),← subL_get hc hi]
 have h1:i < (subL l c m).length:=by rw [subL_len hc];exact hi
 have h2:i < more.length:=by omega
 have h3:i < (List.zipWith (·+·) (subL l c m) more).length:=by rw [List.length_zipWith];omega
 simp only [List.getD,List.getElem?_eq_getElem h1,List.getElem?_eq_getElem h2,List.getElem?_eq_getElem h3,Option.getD_some,List.getElem_zipWith]
theorem wideL_ge {l:List Int} {c m:Nat} {gap need:Int} (hb:UpB l 50000) (hc:c+m≤l.length) (hm:1≤m∧m≤4) (hg:0≤gap∧gap≤3) (hn:need≤30):LeL l (wideL l c m gap need):=by
 refine ⟨(wideL_len _ _ _ _ _).symm,fun i hi=>?_⟩
 unfold wideL
 split
 ·exact Int.le_refl _
 ·rename_i hl
  obtain ⟨hok,_⟩:=lack_ok hb hc hm hg hn (by omega:0 < lackV l c m gap need)
  have hsl:=shareL_len hok
  rw [subL_len hc] at hsl
  by_cases hin:c≤i∧i < c+m
  ·obtain ⟨j,rfl⟩:∃ j,i=c+j:=⟨i - c,by omega⟩
   rw [addTo_in l c _ m (by omega) (by omega)]
   have h1:=shareL_small (t:=lackV l c m gap need) (l:=subL l c m) j (by omega)
   omega
  ·rw [addTo_out l c _ m (fun j hj e=>hin ⟨by omega,by omega⟩)]
   exact Int.le_refl _
theorem wideL_has {l:List Int} {c m:Nat} {gap need:Int} (hb:UpB l 50000) (hc:c+m≤l.length) (hm:1≤m∧m≤4) (hg:0≤gap∧gap≤3) (hn:need≤30):need≤(subL (wideL l c m gap need) c m).sum+gap * ((m:Int) - 1):=by
 unfold wideL
 split
 ·rename_i hl
  unfold lackV at hl
  omega
 ·rename_i hl
  obtain ⟨hok,_⟩:=lack_ok hb hc hm hg hn (by omega:0 < lackV l c m gap need)
  have hsl:=shareL_len hok
  have hsum:=share_sum hok (by rw [subL_len hc];omega)
  have hlk:lackV l c m gap need=need - ((subL l c m).sum+gap * ((m:Int) - 1)):=rfl
  have hsl2:=hsl
  rw [subL_len hc] at hsl2
  rw [sub_addTo hc hsl2,sum_zip _ _ (by rw [hsl]),hsum]
  omega
/-- what a cell has -/
def hasV (l:List Int) (gap:Int) (x:GC):Int:=(subL l x.col.toNat x.cols.toNat).sum+gap * (x.cols - 1)
theorem hasV_le {t:T} {C:Nat} {x:GC} (hx:Cel t C x) {a b:List Int} (h:LeL a b) (ha:a.length=C) (gap:Int):hasV a gap x≤hasV b gap x:=by
 obtain ⟨rn,jn,cn,mn,e1,e2,e3,e4,h1,h2,h3,h4,h5⟩:=hx.ex
 unfold hasV
 rw [e3,e4,Int.toNat_natCast,Int.toNat_natCast]
 have:=sum_le (h.sub (c:=cn) (m:=mn) (by omega))
 omega
theorem pass_ge {t:T} {C:Nat} {gs:List GC} {p:GC→Int} {l:List Int} {B s:Int} (hC:∀ k,k < gs.length→Cel t C (gs.getD k dG)) (hl:l.length=C) (hp:∀ x,p x≤30) (hb:UpB l B) (hB:B+30 * gs.length≤50000) :
  ∀ k,k≤gs.length→LeL l (passTo p t.gap s gs l k)∧∀ j,j < k→(gs.getD j dG).cols=s→p (gs.getD j dG)≤hasV (passTo p t.gap s gs l k) t.gap (gs.getD j dG)
 | 0,_=>⟨LeL.refl _,fun j hj=>absurd hj (Nat.not_lt_zero _)⟩
 | k+1,hk=>by
  obtain ⟨ih1,ih2⟩:=pass_ge (s:=s) hC hl hp hb hB k (by omega)
  have hx:=hC k (by omega)
  have hu:UpB (passTo p t.gap s gs l k) 50000:=fun i hi=>by have:=pass_up (s:=s) hC hl hp hb hB k (by omega) i hi;omega
  have hlen:(passTo p t.gap s gs l k).length=C:=by rw [passTo_len,hl]
  rw [passTo]
  by_cases hs:(gs.getD k dG).cols=s
  ·rw [if_pos hs]
   obtain ⟨rn,jn,cn,mn,e1,e2,e3,e4,h1,h2,h3,h4,h5⟩:=hx.ex
   have hge:=wideL_ge hu (c:=cn) (m:=mn) (by omega) ⟨h4,h5⟩ hx.gap (hp (gs.getD k dG))
   have hhas:=wideL_has hu (c:=cn) (m:=mn) (by omega) ⟨h4,h5⟩ hx.gap (hp (gs.getD k dG))
   rw [e3,e4,Int.toNat_natCast,Int.toNat_natCast]
   refine ⟨ih1.trans hge,fun j hj hjs=>?_⟩
   by_cases hjk:j=k
   ·subst hjk
    unfold hasV
    rw [e3,e4,Int.toNat_natCast,Int.toNat_natCast]
    exact hhas
   ·exact Int.le_trans (ih2 j (by omega) hjs) (hasV_le (hC j (by omega)) hge hlen t.gap)
  ·rw [if_neg hs]
   refine ⟨ih1,fun j hj hjs=>ih2 j ?_ hjs⟩
   by_cases hjk:j=k
   ·subst hjk;exact absurd hjs hs
   ·omega
theorem need_ge {t:T} {C:Nat} {gs:List GC} {p:GC→Int} {l:List Int} (hC:∀ k,k < gs.length→Cel t C (gs.getD k dG)) (h40:gs.length≤40) (hl:l.length=C) (hp:∀ x,p x≤30) (hb:UpB l 0) :
  ∀ s,s≤4→LeL l (needTo p t.gap gs l s)∧∀ j,j < gs.length→(gs.getD j dG).cols≤(s:Int)→p (gs.getD j dG)≤hasV (needTo p t.gap gs l s) t.gap (gs.getD j dG)
 | 0,_=>⟨LeL.refl _,fun j hj h0=>by obtain ⟨rn,jn,cn,mn,e1,e2,e3,e4,h1,h2,h3,h4,h5⟩:=(hC j hj).ex;omega⟩
 | s+1,hs=>by
  obtain ⟨ih1,ih2⟩:=need_ge hC h40 hl hp hb s (by omega)
  have hu:=need_up hC h40 hl hp hb s (by omega)
  have hlen:(needTo p t.gap gs l s).length=C:=by rw [needTo_len,hl]
  obtain ⟨g1,g2⟩:=pass_ge (s:=((s+1:Nat):Int)) hC hlen hp hu (by omega) gs.length (Nat.le_refl _)
  rw [needTo]
  refine ⟨ih1.trans g1,fun j hj hjs=>?_⟩
  by_cases he:(gs.getD j dG).cols=((s+1:Nat):Int)
  ·exact g2 j hj he
  ·exact Int.le_trans (ih2 j hj (by omega)) (hasV_le (hC j hj) g1 hlen t.gap)
end Go.Proofs.YtcbibdhlkdcmiafGreat
namespace Go.Proofs.YtcbibdhlkdcmiafGreat
open Go.RowKit

theorem kind_small {a:Int} (h:-9223372036854775808≤a∧a≤9223372036854775807):IntKind.i64.wrap a=a:=by rw [IntKind.wrap_i64];omega
theorem slice_facts {cn m C:Nat} (h:cn+(m+1)≤C) (hC:C≤88):(cn:Int)≤(cn:Int)+((m:Int)+1)∧(cn:Int)+((m:Int)+1)≤(C:Int)∧(0:Int)≤(cn:Int)+((m:Int)+1)∧((cn:Int)+((m:Int)+1)).toNat=cn+(m+1)∧cn+(m+1) - cn=m+1∧¬ C=cn∧wrap64 ((cn:Int)+((m:Int)+1))=(cn:Int)+((m:Int)+1)∧IntKind.i64.wrap ((cn:Int)+((m:Int)+1))=(cn:Int)+((m:Int)+1):=by
 have e:-9223372036854775808≤(cn:Int)+((m:Int)+1)∧(cn:Int)+((m:Int)+1)≤9223372036854775807:=by omega
 exact ⟨by omega,by omega,by omega,by omega,by omega,by omega,W_small e,kind_small e⟩
theorem slice_facts2 {cn m C:Nat} (h:cn+(m+1)≤C) (hC:cn+(m+1)≤88):(cn:Int)≤(cn:Int)+((m:Int)+1)∧(cn:Int)+((m:Int)+1)≤(C:Int)∧(0:Int)≤(cn:Int)+((m:Int)+1)∧((cn:Int)+((m:Int)+1)).toNat=cn+(m+1)∧cn+(m+1) - cn=m+1∧¬ C=cn∧wrap64 ((cn:Int)+((m:Int)+1))=(cn:Int)+((m:Int)+1)∧IntKind.i64.wrap ((cn:Int)+((m:Int)+1))=(cn:Int)+((m:Int)+1):=by
 have e:-9223372036854775808≤(cn:Int)+((m:Int)+1)∧(cn:Int)+((m:Int)+1)≤9223372036854775807:=by omega
 exact ⟨by omega,by omega,by omega,by omega,by omega,by omega,W_small e,kind_small e⟩
theorem idx_facts {cn j C:Nat} (h:cn+j < C) (hC:C≤88):(0:Int)≤(cn:Int)+(j:Int)∧(cn:Int)+(j:Int) < (C:Int)∧((cn:Int)+(j:Int)).toNat=cn+j∧wrap64 ((cn:Int)+(j:Int))=(cn:Int)+(j:Int)∧IntKind.i64.wrap ((cn:Int)+(j:Int))=(cn:Int)+(j:Int):=by
 have e:-9223372036854775808≤(cn:Int)+(j:Int)∧(cn:Int)+(j:Int)≤9223372036854775807:=by omega
 exact ⟨by omega,by omega,by omega,W_small e,kind_small e⟩
/-- noughts -/
def zeroL (n:Nat):List Int:=List.replicate n 0
theorem zero_up (n:Nat):UpB (zeroL n) 0:=by
 intro i hi
 simp [zeroL] at hi
 simp [zeroL,List.getD,hi]
/-- the table in its box, the grid in its own -/
def Ws (w:World) (z gb:Nat) (ac ar:Option Addr) (cc cr:Nat) (t:T) (ag:Option Addr) (cg:Nat) (W:World):Prop :=
 Below w.heap.size w W∧TA W z ac ar cc cr t∧W.heap[w.heap.size]?=some (.cells #[.slice ac t.cols.length cc,.int .i64 t.head,.int .i64 t.foot,.slice ar t.rows.length cr,.int .i64 t.gap] 26)∧GsAt W w.heap.size (.slice ag (gOf t).cells.length cg) (gOf t).cells∧W.heap[gb]?=some (.cells #[.int .i64 (gOf t).rows,.int .i64 (gOf t).cols,.slice ag (gOf t).cells.length cg] 46)
theorem Ws.kept {w W W':World} {z gb:Nat} {ac ar ag:Option Addr} {cc cr cg:Nat} {t:T} (h:Ws w z gb ac ar cc cr t ag cg W) (hb:Below W.heap.size W W'):Ws w z gb ac ar cc cr t ag cg W' :=
 ⟨h.1.trans (hb.mono h.1.size),h.2.1.kept hb,(hb.block _ (Array.getElem?_eq_some_iff.1 h.2.2.1).1).trans h.2.2.1,h.2.2.2.1.kept hb,(hb.block gb (Array.getElem?_eq_some_iff.1 h.2.2.2.2).1).trans h.2.2.2.2⟩
theorem Ws.at {w W:World} {z gb:Nat} {ac ar ag:Option Addr} {cc cr cg:Nat} {t:T} (h:Ws w z gb ac ar cc cr t ag cg W):W.cell? ⟨w.heap.size,3,none⟩=some (.slice ar t.rows.length cr)∧W.cell? ⟨w.heap.size,4,none⟩=some (.int .i64 t.gap)∧W.cell? ⟨gb,1,none⟩=some (.int .i64 (gOf t).cols)∧W.cell? ⟨gb,2,none⟩=some (.slice ag (gOf t).cells.length cg) :=
 ⟨cellB h.2.2.1,cellB h.2.2.1,cellB h.2.2.2.2,cellB h.2.2.2.2⟩
theorem sub_facts {L:List Int} {B:Int} (hub:UpB L B) (hB:B≤50000) {cn m C:Nat} (hll:L.length=C) (h3:cn+m≤C) (hm:m≤4):(subL L cn m).all wtB=true∧(0≤(subL L cn m).sum∧(subL L cn m).sum≤200000)∧(subL L cn m).length=m:=by
 have hc:cn+m≤L.length:=by omega
 have hb:∀ x ∈ subL L cn m,0≤x∧x≤50000:=fun x hx=>by have:=hub.mem (subL_mem hx);omega
 have hs:=sum_upB hb
 rw [subL_len hc] at hs
 refine ⟨?_,by omega,subL_len hc⟩
 rw [List.all_eq_true]
 intro x hx
 have:=hb x hx
 simp only [wtB,decide_eq_true_eq]
 omega
theorem gap_facts {gap:Int} (hg:0≤gap∧gap≤3) {m:Nat} (hm:m < 4):0≤gap * (m:Int)∧gap * (m:Int)≤9:=⟨Int.mul_nonneg hg.1 (by omega),Int.le_trans (Int.mul_le_mul hg.2 (show (m:Int)≤3 by omega) (by omega) (by omega)) (by omega)⟩
end Go.Proofs.YtcbibdhlkdcmiafGreat
namespace Go.Proofs.YtcbibdhlkdcmiafGreat
open Go.RowKit

/-- the first k columns have what is said of them, if that is more -/
def fixTo (ps:List (Int × Int)) (l:List Int):Nat→List Int
 | 0=>l
 | k+1=>if (sd ps k).1=1 then (fixTo ps l k).set k (max ((fixTo ps l k).getD k 0) (sd ps k).2) else fixTo ps l k
theorem fixTo_len (ps:List (Int × Int)) (l:List Int):∀ k,(fixTo ps l k).length=l.length
 | 0=>rfl
 | k+1=>by rw [fixTo];split;rw [List.length_set];exact fixTo_len ps l k;exact fixTo_len ps l k
theorem fixTo_out (ps:List (Int × Int)) (l:List Int) {i:Nat}:∀ k,k≤i→(fixTo ps l k).getD i 0=l.getD i 0
 | 0,_=>rfl
 | k+1,h=>by
  rw [fixTo]
  split
  ·rw [← fixTo_out ps l (i:=i) k (by omega)]
   simp only [List.getD,List.getElem?_set_ne (show k ≠ i by omega)]
  ·exact fixTo_out ps l k (by omega)
/-- what a column has at last -/
def fixV (ps:List (Int × Int)) (k:Nat) (x:Int):Int:=if (sd ps k).1=1 then max x (sd ps k).2 else x
theorem fixTo_in (ps:List (Int × Int)) (l:List Int) {i:Nat} (hi:i < l.length):∀ k,i < k→(fixTo ps l k).getD i 0=fixV ps i (l.getD i 0)
 | k+1,h=>by
  rw [fixTo]
  by_cases e:i=k
  ·subst e
   rw [fixTo_out ps l i (Nat.le_refl _)]
   have hl:i < (fixTo ps l i).length:=by rw [fixTo_len];exact hi
   unfold fixV
   split
   ·simp [List.getD,hl]
   ·exact fixTo_out ps l i (Nat.le_refl _)
  ·rw [← fixTo_in ps l hi k (by omega)]
   split
   ·simp only [List.getD,List.getElem?_set_ne (show k ≠ i by omega)]
   ·rfl
theorem fixV_ge (ps:List (Int × Int)) (k:Nat) (x:Int):x≤fixV ps k x:=by unfold fixV;split <;> omega
/-- what a cell's text needs -/
def leastP (t:T) (x:GC):Int:=(leastOf (wordsW (textOf t x)):Nat)
def colN (t:T):Nat:=(gOf t).cols.toNat
def needL (t:T) (p:GC→Int):List Int:=needTo p t.gap (gOf t).cells (zeroL (colN t)) 4
def leastL (t:T):List Int:=fixTo t.cols (needL t (leastP t)) (colN t)
theorem needL_len (t:T) (p:GC→Int):(needL t p).length=colN t:=by unfold needL;rw [needTo_len];simp [zeroL]
theorem leastL_len (t:T):(leastL t).length=colN t:=by unfold leastL;rw [fixTo_len,needL_len]
theorem colN_of {t:T} {C:Nat} (h:(gOf t).cols=C):colN t=C:=by unfold colN;rw [h];exact Int.toNat_natCast C
theorem needL_up {t:T} (hD:Drawn t) {p:GC→Int} (hp:∀ x,p x≤30):UpB (needL t p) 4800:=by
 obtain ⟨h40,C,hgc,hC,hcel⟩:=cel_of hD
 unfold needL
 rw [colN_of hgc]
 exact need_up hcel h40 (by simp [zeroL]) hp (zero_up _) 4 (by omega)
theorem sd_small {t:T} {k:Nat} (hk:k < colN t):(sd t.cols k).1=1→0≤(sd t.cols k).2∧(sd t.cols k).2≤60:=by
 intro h1
 cases h:tblB t with
 | false=>unfold colN at hk;rw [gOf_no h] at hk;exact absurd hk (Nat.not_lt_zero _)
 | true =>
  simp only [tblB,colsB,Bool.and_eq_true,List.all_eq_true] at h
  by_cases hl:k < t.cols.length
  ·rw [sd_yes hl] at h1 ⊢
   have:=h.2.2.2.1.2 (t.cols.getD k (0,0)) (by rw [show t.cols.getD k (0,0)=t.cols[k] by simp [List.getD,hl]];exact List.getElem_mem hl)
   simp only [colB,decide_eq_true_eq] at this
   omega
  ·rw [sd_no (inB_false (by omega))] at h1
   simp at h1
theorem leastL_get {t:T} {k:Nat} (hk:k < colN t):(leastL t).getD k 0=fixV t.cols k ((needL t (leastP t)).getD k 0):=by
 unfold leastL
 exact fixTo_in _ _ (by rw [needL_len];exact hk) _ hk
theorem leastP_le (t:T) (x:GC):0≤leastP t x∧leastP t x≤30:=by
 unfold leastP
 have:=leastOf_le (wordsW (textOf t x))
 omega
theorem leastL_up {t:T} (hD:Drawn t):UpB (leastL t) 5000:=by
 intro i hi
 rw [leastL_len] at hi
 rw [leastL_get hi]
 have h1:=needL_up hD (fun x=>(leastP_le t x).2) i (by rw [needL_len];exact hi)
 have h2:=sd_small hi
 unfold fixV
 split
 ·have:=h2 (by assumption);omega
 ·omega
theorem leastL_ge (t:T):LeL (needL t (leastP t)) (leastL t):=by
 refine ⟨by rw [needL_len,leastL_len],fun i hi=>?_⟩
 rw [needL_len] at hi
 rw [leastL_get hi]
 exact fixV_ge _ _ _
/-- no cell is cramped -/
theorem least_has {t:T} (hD:Drawn t) {k:Nat} (hk:k < (gOf t).cells.length):leastP t ((gOf t).cells.getD k dG)≤hasV (leastL t) t.gap ((gOf t).cells.getD k dG):=by
 obtain ⟨h40,C,hgc,hC,hcel⟩:=cel_of hD
 have h1:=(need_ge hcel h40 (l:=zeroL C) (by simp [zeroL]) (fun x=>(leastP_le t x).2) (zero_up _) 4 (Nat.le_refl _)).2 k hk (by obtain ⟨rn,jn,cn,mn,e1,e2,e3,e4,h1,h2,h3,h4,h5⟩:=(hcel k hk).ex;omega)
 have e:needTo (leastP t) t.gap (gOf t).cells (zeroL C) 4=needL t (leastP t):=by unfold needL;rw [colN_of hgc]
 rw [e] at h1
 exact Int.le_trans h1 (hasV_le (hcel k hk) (leastL_ge t) (by rw [needL_len,colN_of hgc]) t.gap)
end Go.Proofs.YtcbibdhlkdcmiafGreat
namespace Go.Proofs.YtcbibdhlkdcmiafGreat
open Go.RowKit

/-- the first k numbers: the greater one of two lists -/
def maxTo (a b:List Int):Nat→List Int
 | 0=>a
 | k+1=>(maxTo a b k).set k (max (a.getD k 0) (b.getD k 0))
theorem maxTo_len (a b:List Int):∀ k,(maxTo a b k).length=a.length
 | 0=>rfl
 | k+1=>by rw [maxTo,List.length_set];exact maxTo_len a b k
theorem maxTo_out (a b:List Int) {i:Nat}:∀ k,k≤i→(maxTo a b k).getD i 0=a.getD i 0
 | 0,_=>rfl
 | k+1,h=>by
  rw [maxTo,← maxTo_out a b (i:=i) k (by omega)]
  simp only [List.getD,List.getElem?_set_ne (show k ≠ i by omega)]
theorem maxTo_in (a b:List Int) {i:Nat} (hi:i < a.length):∀ k,i < k→(maxTo a b k).getD i 0=max (a.getD i 0) (b.getD i 0)
 | k+1,h=>by
  rw [maxTo]
  by_cases e:i=k
  ·subst e
   have hl:i < (maxTo a b i).length:=by rw [maxTo_len];exact hi
   simp only [List.getD,List.getElem?_set_self hl,Option.getD_some]
  ·rw [← maxTo_in a b hi k (by omega)]
   simp only [List.getD,List.getElem?_set_ne (show k ≠ i by omega)]
/-- how wide a cell's text would be -/
def wishP (t:T) (x:GC):Int:=(wishOf (textOf t x):Nat)
theorem wishP_le (t:T) (x:GC):0≤wishP t x∧wishP t x≤30:=by
 unfold wishP
 have:=wishOf_le (textOf t x)
 omega
def wishL (t:T):List Int:=maxTo (needL t (wishP t)) (leastL t) (colN t)
theorem wishL_len (t:T):(wishL t).length=colN t:=by unfold wishL;rw [maxTo_len,needL_len]
theorem wishL_get {t:T} {k:Nat} (hk:k < colN t):(wishL t).getD k 0=max ((needL t (wishP t)).getD k 0) ((leastL t).getD k 0):=by
 unfold wishL
 exact maxTo_in _ _ (by rw [needL_len];exact hk) _ hk
theorem wishL_up {t:T} (hD:Drawn t):UpB (wishL t) 5000:=by
 intro i hi
 rw [wishL_len] at hi
 rw [wishL_get hi]
 have h1:=needL_up hD (fun x=>(wishP_le t x).2) i (by rw [needL_len];exact hi)
 have h2:=leastL_up hD i (by rw [leastL_len];exact hi)
 omega
end Go.Proofs.YtcbibdhlkdcmiafGreat
namespace Go.Proofs.YtcbibdhlkdcmiafGreat
open Go.RowKit

/-- whether a column is of a kind -/
def kindP (t:T) (q:Int) (k:Nat):Bool:=decide ((sd t.cols k).1=q)
/-- what is left beyond what columns have -/
def restV (t:T) (width:Int):Int:=width - ((leastL t).sum+t.gap * ((colN t:Int) - 1))
/-- what parts want -/
def want1 (t:T) (width:Int) (l:List Int):List Int:=(List.range l.length).map (fun k=>if kindP t 2 k=true then max 0 (width * (sd t.cols k).2 / 100 - l.getD k 0) else 0)
/-- what others want -/
def want2 (t:T) (l:List Int):List Int:=(List.range l.length).map (fun k=>if kindP t 0 k=true then max 0 ((wishL t).getD k 0 - l.getD k 0) else 0)
def out1 (t:T) (width:Int):List Int:=addL (leastL t) (upToL (restV t width) (want1 t width (leastL t)))
def left1 (t:T) (width:Int):Int:=upToN (restV t width) (want1 t width (leastL t))
def out2 (t:T) (width:Int):List Int:=addL (out1 t width) (upToL (left1 t width) (want2 t (out1 t width)))
def left2 (t:T) (width:Int):Int:=upToN (left1 t width) (want2 t (out1 t width))
/-- how wide columns are -/
def widL (t:T) (width:Int):List Int :=
 if restV t width≤0 then leastL t
 else if 0 < (selN (kindP t 0) (colN t)).length then addL (out2 t width) (shareL (left2 t width) (oneL (kindP t 0) (colN t)))
 else if 0 < (selN (kindP t 2) (colN t)).length then addL (out2 t width) (shareL (left2 t width) (oneL (kindP t 2) (colN t)))
 else out2 t width
theorem addL_len {a b:List Int} (h:b.length=a.length):(addL a b).length=a.length:=by unfold addL;rw [List.length_zipWith,h];omega
theorem addL_sum {a b:List Int} (h:b.length=a.length):(addL a b).sum=a.sum+b.sum:=sum_zip a b h.symm
theorem addL_get {a b:List Int} (h:b.length=a.length) {i:Nat} (hi:i < a.length):(addL a b).getD i 0=a.getD i 0+b.getD i 0:=by
 have hb:i < b.length:=by omega
 have hz:i < (List.zipWith (·+·) a b).length:=by rw [List.length_zipWith];omega
 unfold addL
 simp only [List.getD,List.getElem?_eq_getElem hi,List.getElem?_eq_getElem hb,List.getElem?_eq_getElem hz,Option.getD_some,List.getElem_zipWith]
theorem want1_len (t:T) (width:Int) (l:List Int):(want1 t width l).length=l.length:=by simp [want1]
theorem want2_len (t:T) (l:List Int):(want2 t l).length=l.length:=by simp [want2]
theorem want1_get {t:T} {width:Int} {l:List Int} {k:Nat} (h:k < l.length):(want1 t width l).getD k 0=if kindP t 2 k=true then max 0 (width * (sd t.cols k).2 / 100 - l.getD k 0) else 0:=by simp [want1,List.getD,h]
theorem want2_get {t:T} {l:List Int} {k:Nat} (h:k < l.length):(want2 t l).getD k 0=if kindP t 0 k=true then max 0 ((wishL t).getD k 0 - l.getD k 0) else 0:=by simp [want2,List.getD,h]
theorem ok_of {t:Int} {l:List Int} (ht:0≤t∧t≤100000) (hl:l.length≤100) (h:∀ i,i < l.length→0≤l.getD i 0∧l.getD i 0≤100000):shrOkB t l=true:=by
 simp only [shrOkB,Bool.and_eq_true,decide_eq_true_eq,List.all_eq_true]
 refine ⟨⟨by simp only [wtB,decide_eq_true_eq];exact ht,hl⟩,fun x hx=>?_⟩
 obtain ⟨i,hi,rfl⟩:=List.mem_iff_getElem.1 hx
 have:=h i hi
 rw [show l.getD i 0=l[i] by simp [List.getD,hi]] at this
 simp only [wtB,decide_eq_true_eq]
 exact this
/-- what is shared up to what each wants, and what is left, is all of it -/
theorem upTo_total {t:Int} {l:List Int} (hok:shrOkB t l=true):(upToL t l).length=l.length∧(upToL t l).sum+upToN t l=t∧0≤upToN t l∧upToN t l≤t∧∀ i,i < l.length→0≤(upToL t l).getD i 0∧(upToL t l).getD i 0≤l.getD i 0:=by
 obtain ⟨ht,hlen,hw⟩:=shrOk_parts hok
 have hg:∀ i,i < l.length→0≤l.getD i 0:=fun i hi=>(wt_get hw hi).1
 by_cases hs:l.sum≤t
 ·rw [(upTo_all hok hs).1,(upTo_all hok hs).2]
  have h0:0≤l.sum:=(sum_bound hw).1
  exact ⟨rfl,by omega,by omega,by omega,fun i hi=>⟨hg i hi,Int.le_refl _⟩⟩
 ·rw [(upTo_share hok hs).1,(upTo_share hok hs).2]
  have hpos:0 < l.length:=by
   cases l with
   | nil=>simp at hs;omega
   | cons _ _=>simp
  exact ⟨shareL_len hok,by rw [share_sum hok hpos];omega,Int.le_refl _,ht.1,fun i hi=>share_upto hok (by omega) hi⟩
theorem sd_kind {t:T} {k:Nat} (hk:k < colN t):((sd t.cols k).1=0)∨((sd t.cols k).1=1∧0≤(sd t.cols k).2∧(sd t.cols k).2≤60)∨((sd t.cols k).1=2∧1≤(sd t.cols k).2∧(sd t.cols k).2≤100):=by
 cases h:tblB t with
 | false=>unfold colN at hk;rw [gOf_no h] at hk;exact absurd hk (Nat.not_lt_zero _)
 | true =>
  simp only [tblB,colsB,Bool.and_eq_true,List.all_eq_true] at h
  by_cases hl:k < t.cols.length
  ·rw [sd_yes hl]
   have:=h.2.2.2.1.2 (t.cols.getD k (0,0)) (by rw [show t.cols.getD k (0,0)=t.cols[k] by simp [List.getD,hl]];exact List.getElem_mem hl)
   simp only [colB,decide_eq_true_eq] at this
   omega
  ·rw [sd_no (inB_false (by omega))]
   exact .inl rfl
theorem part_small {width n:Int} (hw:0≤width∧width≤300) (hn:1≤n∧n≤100):0≤width * n / 100∧width * n / 100≤300:=by
 have h1:0≤width * n:=Int.mul_nonneg hw.1 (by omega)
 have h2:width * n≤300 * 100:=Int.mul_le_mul hw.2 hn.2 (by omega) (by omega)
 omega
/-- all three steps: what is known of them -/
theorem wid_steps {t:T} (hD:Drawn t) (hok:tblB t=true) {width:Int} (hw:0≤width∧width≤300) (hr:0 < restV t width) :
  shrOkB (restV t width) (want1 t width (leastL t))=true∧shrOkB (left1 t width) (want2 t (out1 t width))=true∧(0≤left2 t width∧left2 t width≤300)∧(out1 t width).length=colN t∧(out2 t width).length=colN t∧(out2 t width).sum+left2 t width=(leastL t).sum+restV t width ∧
  (∀ k,k < colN t→(leastL t).getD k 0≤(out1 t width).getD k 0∧(out1 t width).getD k 0≤(out2 t width).getD k 0∧(kindP t 2 k=false→(out1 t width).getD k 0=(leastL t).getD k 0)∧(kindP t 0 k=false→(out2 t width).getD k 0=(out1 t width).getD k 0)):=by
 obtain ⟨_,C,hgc,hC,hcel⟩:=cel_of hD
 have hCN:=colN_of hgc
 have hlen:=leastL_len t
 have hup:=leastL_up hD
 have hsb:=sum_upB (l:=leastL t) (B:=5000) (fun x hx=>hup.mem hx)
 have hC1:1≤colN t:=by
  have h1:(gOf t).cols=colsOf (max 1 (t.cols.length:Int)) (gridOf t):=by rw [gOf_ok hok]
  have h2:=colsOf_ge (gridOf t) (max 1 (t.cols.length:Int))
  unfold colN
  omega
 have hg:0≤t.gap∧t.gap≤3:=by
  simp only [tblB,inB,Bool.and_eq_true,decide_eq_true_eq] at hok
  exact hok.2.2.1
 have hgap:0≤t.gap * ((colN t:Int) - 1):=Int.mul_nonneg hg.1 (by omega)
 have hr300:restV t width≤300:=by unfold restV;omega
 have ok1:shrOkB (restV t width) (want1 t width (leastL t))=true:=ok_of (by omega) (by rw [want1_len,hlen];omega) (fun i hi=>by
  rw [want1_len] at hi
  rw [want1_get hi]
  have hu:=hup i hi
  split
  ·rename_i hp
   have hk:=sd_kind (t:=t) (k:=i) (by rw [← hlen];exact hi)
   simp only [kindP,decide_eq_true_eq] at hp
   have:=part_small hw (n:=(sd t.cols i).2) (by omega)
   omega
  ·omega)
 obtain ⟨l1,s1,n1,m1,e1⟩:=upTo_total ok1
 rw [want1_len] at l1 e1
 have ho1:(out1 t width).length=colN t:=by unfold out1;rw [addL_len l1,hlen]
 have g1:∀ k,k < colN t→(out1 t width).getD k 0=(leastL t).getD k 0+(upToL (restV t width) (want1 t width (leastL t))).getD k 0:=fun k hk=>by unfold out1;exact addL_get l1 (by rw [hlen];exact hk)
 have hl1:0≤left1 t width∧left1 t width≤300:=by unfold left1;omega
 have ok2:shrOkB (left1 t width) (want2 t (out1 t width))=true:=ok_of (by omega) (by rw [want2_len,ho1];omega) (fun i hi=>by
  rw [want2_len] at hi
  rw [want2_get hi]
  have hi':i < colN t:=by rw [← ho1];exact hi
  have hwu:=wishL_up hD i (by rw [wishL_len];exact hi')
  have h3:=g1 i hi'
  have h4:=hup i (by rw [hlen];exact hi')
  have h5:=e1 i (by rw [hlen];exact hi')
  split <;> omega)
 obtain ⟨l2,s2,n2,m2,e2⟩:=upTo_total ok2
 rw [want2_len] at l2 e2
 have ho2:(out2 t width).length=colN t:=by unfold out2;rw [addL_len l2,ho1]
 have g2:∀ k,k < colN t→(out2 t width).getD k 0=(out1 t width).getD k 0+(upToL (left1 t width) (want2 t (out1 t width))).getD k 0:=fun k hk=>by unfold out2;exact addL_get l2 (by rw [ho1];exact hk)
 refine ⟨ok1,ok2,by unfold left2;omega,ho1,ho2,?_,fun k hk=>?_⟩
 ·have a1:(out1 t width).sum=(leastL t).sum+(upToL (restV t width) (want1 t width (leastL t))).sum:=by unfold out1;exact addL_sum l1
  have a2:(out2 t width).sum=(out1 t width).sum+(upToL (left1 t width) (want2 t (out1 t width))).sum:=by unfold out2;exact addL_sum l2
  have a3:left1 t width=upToN (restV t width) (want1 t width (leastL t)):=rfl
  have a4:left2 t width=upToN (left1 t width) (want2 t (out1 t width)):=rfl
  rw [a2,a1,a4]
  omega
 ·have b1:=e1 k (by rw [hlen];exact hk)
  have b2:=e2 k (by rw [ho1];exact hk)
  rw [want1_get (by rw [hlen];exact hk)] at b1
  rw [want2_get (by rw [ho1];exact hk)] at b2
  have c1:=g1 k hk
  have c2:=g2 k hk
  refine ⟨by omega,by omega,fun h=>?_,fun h=>?_⟩
  ·rw [if_neg (by rw [h];simp)] at b1
   omega
  ·rw [if_neg (by rw [h];simp)] at b2
   omega
theorem oneL_sum {P:Nat→Bool} {n:Nat}:(oneL P n).sum=((selN P n).length:Int):=by
 have hz:∀ i,i < (oneL P n).length→P i=false→(oneL P n).getD i 0=0:=fun i hi hP=>by
  rw [oneL_len] at hi
  rw [oneL_get hi,if_neg (by rw [hP];simp)]
 have:=selL_sum (l:=oneL P n) (P:=P) (oneL P n).length (Nat.le_refl _) hz
 rw [sumTo_all,oneL_len,sel_one,sum_ones] at this
 exact this.symm
theorem selN_none {P:Nat→Bool} {n:Nat} (h:¬ 0 < (selN P n).length) {k:Nat} (hk:k < n):P k=false:=by
 cases hP:P k with
 | false=>rfl
 | true =>
  have:k ∈ selN P n:=by unfold selN;rw [List.mem_filter];exact ⟨List.mem_range.2 hk,hP⟩
  exact absurd (List.length_pos_of_mem this) h
/-- the last share -/
theorem last_share {P:Nat→Bool} {n:Nat} {t:Int} {l:List Int} (hl:l.length=n) (hn:n≤100) (ht:0≤t∧t≤300) (h0:0 < (selN P n).length) :
  (addL l (shareL t (oneL P n))).length=n∧(addL l (shareL t (oneL P n))).sum=l.sum+t∧∀ k,k < n→l.getD k 0≤(addL l (shareL t (oneL P n))).getD k 0∧(P k=false→(addL l (shareL t (oneL P n))).getD k 0=l.getD k 0):=by
 have hok:=oneL_ok P (n:=n) (t:=t) (by omega) hn
 have hs:=shareL_len hok
 rw [oneL_len] at hs
 have hpos:0 < n:=by
  have:=(selN_get h0).1
  omega
 refine ⟨by rw [addL_len (by rw [hs,hl]),hl],by rw [addL_sum (by rw [hs,hl]),share_sum hok (by rw [oneL_len];exact hpos)],fun k hk=>?_⟩
 rw [addL_get (by rw [hs,hl]) (by rw [hl];exact hk)]
 have h1:=shareL_small (t:=t) (l:=oneL P n) k (by rw [hs];exact hk)
 refine ⟨by omega,fun hP=>?_⟩
 rw [share_zero hok (by rw [oneL_sum];omega) (by rw [oneL_len];exact hk) (by rw [oneL_get hk,if_neg (by rw [hP];simp)])]
 omega
/-- whether of all columns a width is said -/
def allFix (t:T):Bool:=(List.range (colN t)).all (fun k=>kindP t 1 k)
theorem wid_facts {t:T} (hD:Drawn t) (hok:tblB t=true) {width:Int} (hw:0≤width∧width≤300) :
  (widL t width).length=colN t∧(widL t width).sum+t.gap * ((colN t:Int) - 1)=(if width < (leastL t).sum+t.gap * ((colN t:Int) - 1)∨allFix t=true then (leastL t).sum+t.gap * ((colN t:Int) - 1) else width) ∧
  ∀ k,k < colN t→(leastL t).getD k 0≤(widL t width).getD k 0∧(kindP t 1 k=true→(widL t width).getD k 0=(leastL t).getD k 0):=by
 obtain ⟨_,C,hgc,hC,hcel⟩:=cel_of hD
 have hCN:=colN_of hgc
 have hk1:∀ k,kindP t 1 k=true→kindP t 0 k=false∧kindP t 2 k=false:=fun k h=>by
  simp only [kindP,decide_eq_true_eq] at h
  simp [kindP,h]
 by_cases hr:restV t width≤0
 ·have e:widL t width=leastL t:=by unfold widL;rw [if_pos hr]
  rw [e]
  refine ⟨leastL_len t,?_,fun k _=>⟨Int.le_refl _,fun _=>rfl⟩⟩
  unfold restV at hr
  split
  ·rfl
  ·rename_i hn
   have:¬ width < (leastL t).sum+t.gap * ((colN t:Int) - 1):=fun h=>hn (.inl h)
   omega
 ·obtain ⟨_,_,hl2,_,ho2,hsum,hk⟩:=wid_steps hD hok hw (by omega)
  have hrr:restV t width=width - ((leastL t).sum+t.gap * ((colN t:Int) - 1)):=rfl
  have hnl:¬ width < (leastL t).sum+t.gap * ((colN t:Int) - 1):=by omega
  by_cases h0:0 < (selN (kindP t 0) (colN t)).length
  ·have e:widL t width=addL (out2 t width) (shareL (left2 t width) (oneL (kindP t 0) (colN t))):=by unfold widL;rw [if_neg hr,if_pos h0]
   obtain ⟨a1,a2,a3⟩:=last_share ho2 (by omega) hl2 h0
   have hnf:¬ allFix t=true:=fun h=>by
    have hg:=selN_get h0
    have:=List.all_eq_true.1 h _ (List.mem_range.2 hg.1)
    have:=(hk1 _ this).1
    rw [hg.2] at this
    cases this
   rw [e]
   refine ⟨a1,?_,fun k hkk=>?_⟩
   ·rw [if_neg (by rintro (h | h);exact hnl h;exact hnf h),a2]
    omega
   ·have b1:=a3 k hkk
    have b2:=hk k hkk
    refine ⟨by omega,fun h=>?_⟩
    have c:=hk1 k h
    rw [b1.2 c.1,b2.2.2.2 c.1,b2.2.2.1 c.2]
  ·by_cases h2:0 < (selN (kindP t 2) (colN t)).length
   ·have e:widL t width=addL (out2 t width) (shareL (left2 t width) (oneL (kindP t 2) (colN t))):=by unfold widL;rw [if_neg hr,if_neg h0,if_pos h2]
    obtain ⟨a1,a2,a3⟩:=last_share ho2 (by omega) hl2 h2
    have hnf:¬ allFix t=true:=fun h=>by
     have hg:=selN_get h2
     have:=List.all_eq_true.1 h _ (List.mem_range.2 hg.1)
     have:=(hk1 _ this).2
     rw [hg.2] at this
     cases this
    rw [e]
    refine ⟨a1,?_,fun k hkk=>?_⟩
    ·rw [if_neg (by rintro (h | h);exact hnl h;exact hnf h),a2]
     omega
    ·have b1:=a3 k hkk
     have b2:=hk k hkk
     refine ⟨by omega,fun h=>?_⟩
     have c:=hk1 k h
     rw [b1.2 c.2,b2.2.2.2 c.1,b2.2.2.1 c.2]
   ·have e:widL t width=out2 t width:=by unfold widL;rw [if_neg hr,if_neg h0,if_neg h2]
    have hfx:allFix t=true:=List.all_eq_true.2 (fun k hkr=>by
     have hkk:=List.mem_range.1 hkr
     have n0:=selN_none h0 hkk
     have n2:=selN_none h2 hkk
     have:=sd_kind hkk
     simp only [kindP,decide_eq_false_iff_not] at n0 n2
     simp only [kindP,decide_eq_true_eq]
     omega)
    have heq:out2 t width=leastL t:=by
     apply List.ext_getElem (by rw [ho2,leastL_len])
     intro i h1 h3
     have hi:i < colN t:=by rw [ho2] at h1;exact h1
     have b:=hk i hi
     have:=(b.2.2.2 (selN_none h0 hi)).trans (b.2.2.1 (selN_none h2 hi))
     simpa [List.getD,h1,h3] using this
    rw [e,heq]
    refine ⟨leastL_len t,by rw [if_pos (.inr hfx)],fun k _=>⟨Int.le_refl _,fun _=>rfl⟩⟩
end Go.Proofs.YtcbibdhlkdcmiafGreat
namespace Go.Proofs.YtcbibdhlkdcmiafGreat
open Go.RowKit

/-- how wide columns are, if it may be so wide -/
def widT (t:T) (width:Int):List Int:=if (tblB t && inB width 0 300)=true then widL t width else []
end Go.Proofs.YtcbibdhlkdcmiafGreat
namespace Go.Proofs.YtcbibdhlkdcmiafGreat
open Go.RowKit

/-- a cell's lines, by how wide columns are -/
def lnsOf (t:T) (l:List Int) (x:GC):List ByteArray:=lnOut (lnSt (cellV l t.gap x) (wordsW (textOf t x)))
def linesL (t:T) (l:List Int) (gs:List GC):List (List ByteArray):=gs.map (lnsOf t l)
/-- the lines of each cell, if the table may be so wide -/
def linesT (t:T) (width:Int):List (List ByteArray):=if (tblB t && inB width 0 300)=true then linesL t (widL t width) (gOf t).cells else []
theorem cellV_i64 (l:List Int) (gap:Int) (x:GC):-9223372036854775808≤cellV l gap x∧cellV l gap x≤9223372036854775807:=by
 unfold cellV acrV
 split
 ·omega
 ·exact W_bounds _
theorem linesL_len (t:T) (l:List Int) (gs:List GC):(linesL t l gs).length=gs.length:=by simp [linesL]
theorem linesL_get (t:T) (l:List Int) {gs:List GC} {k:Nat} (h:k < gs.length):(linesL t l gs).getD k []=lnsOf t l (gs.getD k dG):=by simp [linesL,List.getD,h]
theorem linesL_next (t:T) (l:List Int) {gs:List GC} {k:Nat} (h:k < gs.length):(linesL t l gs).take (k+1)=(linesL t l gs).take k ++ [lnsOf t l (gs.getD k dG)]:=by
 rw [List.take_succ_eq_append_getElem (by rw [linesL_len];exact h)]
 simp [linesL,List.getD,h]
theorem lnsOf_len (t:T) (l:List Int) (x:GC):(lnsOf t l x).length≤31:=by
 have h1:=(out_bound (cellV l t.gap x) (wordsW (textOf t x))).1
 have h2:=wordsW_len (textOf t x)
 unfold lnsOf
 omega
theorem lnsOf_size (t:T) (l:List Int) (x:GC):∀ y ∈ lnsOf t l x,y.size≤maxLen:=by
 refine line_le (n:=maxLen) ?_ _ (fun y _=>?_)
 ·have:=(cellV_i64 l t.gap x).2
  unfold maxLen
  omega
 ·have:=y.2.2
  unfold maxLen
  omega
theorem linesL_size (t:T) (l:List Int) (gs:List GC):∀ k ∈ linesL t l gs,∀ y ∈ k,y.size≤maxLen:=by
 intro k hk y hy
 obtain ⟨x,_,rfl⟩:=List.mem_map.1 hk
 exact lnsOf_size t l x y hy
end Go.Proofs.YtcbibdhlkdcmiafGreat
