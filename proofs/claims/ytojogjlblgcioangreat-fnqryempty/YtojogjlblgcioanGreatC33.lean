/-
  PROVED HERE: lists of rects in memory: they stay where what was in memory stays; lists that a call owns are such lists. Also: 9 more texts of the same proof.
-/
import Derived.Test.YtojogjlblgcioanGreatC12
import Derived.Test.YtojogjlblgcioanGreatC13
import Derived.Test.YtojogjlblgcioanGreatC25
import Derived.Test.YtojogjlblgcioanGreatC21
import Derived.Test.YtojogjlblgcioanGreatC24
import Derived.Test.YtojogjlblgcioanGreatC8
import Derived.Test.YtojogjlblgcioanGreatC10
import Derived.Test.YtojogjlblgcioanGreatC9
import Derived.Laws.BitsLemmas
import Derived.Laws.AppendOwn
import Derived.Laws.Externs
import Derived.Lib.Walk
import Derived.Lib.Slices
import Derived.Deep.QuietTactic
import Derived.BigQuiet
import Derived.WalkLawsBesides
import Derived.WalkSpells
import Derived.RegionTactic
namespace Go.Proofs.YtojogjlblgcioanGreat
open Go.RowKit
structure QR where
 x:Int
 y:Int
 w:Int
 h:Int
def dQ:QR:=⟨0,0,0,0⟩
def QrIs (w:World) (b o:Nat) (q:QR):Prop:=w.cell? ⟨b,o,none⟩=some (.int .i64 q.x)∧w.cell? ⟨b,o+1,none⟩=some (.int .i64 q.y)∧w.cell? ⟨b,o+2,none⟩=some (.int .i64 q.w)∧w.cell? ⟨b,o+3,none⟩=some (.int .i64 q.h)
def QsAt (w:World) (z:Nat) (v:Value) (qs:List QR):Prop:=At w z v qs.length 4 (fun i b o=>QrIs w b o (qs.getD i dQ))
theorem QsAt.since {w w':World} {z:Nat} {v:Value} {qs:List QR} (h:QsAt w z v qs) (k:Since z w w'):QsAt w' z v qs :=
 At.mono h k.size (Nat.le_refl _) (fun _ _ _ _ hb hz he=>⟨(k.cell hz hb _).trans he.1,(k.cell hz hb _).trans he.2.1,(k.cell hz hb _).trans he.2.2.1,(k.cell hz hb _).trans he.2.2.2⟩)
theorem QsAt.kept {w w':World} {z:Nat} {v:Value} {qs:List QR} (h:QsAt w z v qs) (k:Below w.heap.size w w'):QsAt w' z v qs:=h.since (.of_below k)
theorem QsAt.base {w:World} {z z':Nat} {v:Value} {qs:List QR} (h:QsAt w z v qs) (hz:z'≤z):QsAt w z' v qs:=At.mono h (Nat.le_refl _) hz (fun _ _ _ _ _ _ he=>he)
def qrVs (q:QR):List Value:=[.int .i64 q.x,.int .i64 q.y,.int .i64 q.w,.int .i64 q.h]
def OwnQ (w:World) (base:Nat) (v:Value) (qs:List QR):Prop:=w.ownsRow base 92 4 v qs.length (qs.flatMap qrVs)
theorem OwnQ.at {w:World} {base:Nat} {v:Value} {qs:List QR} (h:OwnQ w base v qs):QsAt w base v qs:=by
 rcases h.2 with ⟨rfl,hn⟩ | ⟨g,cap,cur,rfl,hg,hc,h1,h2,_⟩
 ·exact ⟨none,0,by rw [hn],by omega,by unfold maxLen;omega,fun i hi=>by omega⟩
 ·refine ⟨_,cap,rfl,h1,h2,fun i hi=>⟨g,0,rfl,(bL hc),hg,?_⟩⟩
  have hx:∀ j,j < 4→w.cell? ⟨g,i * 4+j,none⟩=(qrVs qs[i])[j]?:=fun j hj=>by
   have e:=flat_get qrVs 4 (fun _=>rfl) qs i hi j hj
   rw [row_cell h (u:=(qrVs qs[i])[j]'(by show j < 4;exact hj)) (by rw [e];simp)]
   simp
  have e1:qs.getD i dQ=qs[i]:=by simp [List.getD,hi]
  show QrIs w g (0+i * 4) (qs.getD i dQ)
  rw [e1,Nat.zero_add]
  exact ⟨hx 0 (by omega),hx 1 (by omega),hx 2 (by omega),hx 3 (by omega)⟩
theorem infoQR:(Tryz.prog.info? 92).map (fun i=>(i.zero,i.size,i.bytes))=some (some (Value.agg #[.int .i64 0,.int .i64 0,.int .i64 0,.int .i64 0]),4,32):=by kernel_rfl
theorem own_next {w:World} {base:Nat} {v:Value} {qs:List QR} {q:QR} (h:w.ownsRow base 92 4 v (qs.length+1) (qs.flatMap qrVs ++ [.int .i64 q.x,.int .i64 q.y,.int .i64 q.w,.int .i64 q.h])):OwnQ w base v (qs ++ [q]):=by
 unfold OwnQ
 rw [List.length_append,List.flatMap_append]
 simpa [qrVs] using h
end Go.Proofs.YtojogjlblgcioanGreat
namespace Go.Proofs.YtojogjlblgcioanGreat
theorem getD_snoc_lt {α:Type} {l:List α} {x d:α} {k:Nat} (h:k < l.length):(l ++ [x]).getD k d=l.getD k d:=by
 simp [List.getD,List.getElem?_append_left h]
theorem getD_snoc_eq {α:Type} {l:List α} {x d:α}:(l ++ [x]).getD l.length d=x:=by simp [List.getD]
theorem take_snoc_le {α:Type} {l:List α} {x:α} {k:Nat} (h:k≤l.length):(l ++ [x]).take k=l.take k:=by
 rw [List.take_append_of_le_length h]
theorem atCol_place (gs:List GC) (r i:Nat) (e:Int) (x:C) (c:Int):atCol (place gs r i e x) c=atCol (bare r i e x) c:=by simp only [place,atCol]
theorem col_place (gs:List GC) (r i:Nat) (e:Int) (x:C):(place gs r i e x).col=(ffree gs (bare r i e x):Int):=by simp only [place,atCol]
structure Laid (t:T) (gs:List GC) (k:Nat):Prop where
 ex:∃ r j:Nat,r < t.rows.length∧j < (t.rows.getD r dR).cells.length∧gs.getD k dG=place (gs.take k) r j (endOf t r) ((t.rows.getD r dR).cells.getD j dC)
 free:freeG (gs.take k) (gs.getD k dG)=true
 first:∀ c:Nat,(c:Int) < (gs.getD k dG).col→freeG (gs.take k) (atCol (gs.getD k dG) c)=false
 after:0 < k→(gs.getD (k - 1) dG).row < (gs.getD k dG).row∨(gs.getD (k - 1) dG).row=(gs.getD k dG).row∧(gs.getD (k - 1) dG).ins+1=(gs.getD k dG).ins
theorem Laid.snoc {t:T} {gs:List GC} {k:Nat} (x:GC) (hk:k < gs.length) (h:Laid t gs k):Laid t (gs ++ [x]) k:=by
 have e1:(gs ++ [x]).getD k dG=gs.getD k dG:=getD_snoc_lt hk
 have e2:(gs ++ [x]).take k=gs.take k:=take_snoc_le (by omega)
 have e3:(gs ++ [x]).getD (k - 1) dG=gs.getD (k - 1) dG:=getD_snoc_lt (by omega)
 refine ⟨?_,?_,?_,?_⟩
 ·rw [e1,e2];exact h.ex
 ·rw [e1,e2];exact h.free
 ·rw [e1,e2];exact h.first
 ·rw [e1,e3];exact h.after
structure LaidTo (t:T) (gs:List GC) (r i:Nat):Prop where
 part:Part t gs r i
 laid:∀ k,k < gs.length→Laid t gs k
 last:0 < gs.length→(gs.getD (gs.length - 1) dG).row < r∨(gs.getD (gs.length - 1) dG).row=r∧(gs.getD (gs.length - 1) dG).ins+1=i
theorem LaidTo.next {t:T} {gs:List GC} {r i:Nat} (h:LaidTo t gs r i) (hl:Low t) (hr:r < t.rows.length) (hi:i < (t.rows.getD r dR).cells.length) :
  LaidTo t (gs ++ [place gs r i (endOf t r) ((t.rows.getD r dR).cells.getD i dC)]) r (i+1):=by
 obtain ⟨⟨h1,h2,h3,h4⟩,hp⟩:=h.part.next hl hr hi
 refine ⟨hp,?_,?_⟩
 ·intro k hk
  rw [List.length_append,List.length_singleton] at hk
  by_cases hk2:k < gs.length
  ·exact (h.laid k hk2).snoc _ hk2
  ·obtain rfl:k=gs.length:=by omega
   have e2:∀ x:GC,(gs ++ [x]).take gs.length=gs:=fun x=>by rw [take_snoc_le (Nat.le_refl _),List.take_length]
   refine ⟨?_,?_,?_,?_⟩
   ·rw [getD_snoc_eq,e2];exact ⟨r,i,hr,hi,rfl⟩
   ·rw [getD_snoc_eq,e2];exact h2
   ·rw [getD_snoc_eq,e2]
    intro c hc
    rw [col_place] at hc
    rw [atCol_place]
    exact h3 c (Int.ofNat_lt.1 hc)
   ·intro h0
    rw [getD_snoc_eq,getD_snoc_lt (by omega)]
    exact h.last h0
 ·intro _
  rw [List.length_append,List.length_singleton,Nat.add_sub_cancel,getD_snoc_eq]
  refine .inr ⟨rfl,?_⟩
  show (i:Int)+1=((i+1:Nat):Int)
  omega
theorem LaidTo.zero (t:T):LaidTo t [] 0 0:=⟨Part.zero t,fun _ hk=>absurd hk (Nat.not_lt_zero _),fun h=>absurd h (Nat.lt_irrefl _)⟩
theorem LaidTo.rowEnd {t:T} {gs:List GC} {r:Nat} (h:LaidTo t gs r (t.rows.getD r dR).cells.length):LaidTo t gs (r+1) 0:=by
 refine ⟨h.part.rowEnd,h.laid,fun h0=>.inl ?_⟩
 rcases h.last h0 with h1 | ⟨h1,_⟩ <;> omega
theorem laid_row {t:T} (hl:Low t) {r:Nat} (hr:r < t.rows.length) (h:LaidTo t (gridTo t r) r 0):∀ i,i≤(t.rows.getD r dR).cells.length→LaidTo t (rowTo (endOf t r) r (t.rows.getD r dR).cells (gridTo t r) i) r i
 | 0,_=>h
 | i+1,hi=>LaidTo.next (laid_row hl hr h i (by omega)) hl hr (by omega)
theorem laid_grid {t:T} (hl:Low t):∀ r,r≤t.rows.length→LaidTo t (gridTo t r) r 0
 | 0,_=>LaidTo.zero t
 | r+1,hr=>(laid_row hl (by omega) (laid_grid hl r (by omega)) _ (Nat.le_refl _)).rowEnd
theorem laid_of {t:T} (hl:Low t) {k:Nat} (hk:k < (gridOf t).length):Laid t (gridOf t) k:=(laid_grid hl _ (Nat.le_refl _)).laid k hk
theorem stands_of {t:T} (hl:Low t) {a:GC} (ha:a ∈ gridOf t):Stands t.rows.length a:=((part_grid hl _ (Nat.le_refl _)).stands a ha).1
theorem colsOf_cons (m:Int) (a:GC) (gs:List GC):colsOf m (a :: gs)=colsOf (max m (a.col+a.cols)) gs:=rfl
theorem colsOf_ge:∀ (gs:List GC) (m:Int),m≤colsOf m gs
 | [],m=>Int.le_refl _
 | a :: gs,m=>by rw [colsOf_cons];exact Int.le_trans (Int.le_max_left _ _) (colsOf_ge gs _)
theorem colsOf_mem:∀ {gs:List GC} {m:Int} {a:GC},a ∈ gs→a.col+a.cols≤colsOf m gs
 | b :: gs,m,a,h=>by
  rw [colsOf_cons]
  rcases List.mem_cons.1 h with rfl | h
  ·exact Int.le_trans (Int.le_max_right _ _) (colsOf_ge gs _)
  ·exact colsOf_mem h
theorem colsOf_le:∀ {gs:List GC} {m B:Int},m≤B→(∀ a ∈ gs,a.col+a.cols≤B)→colsOf m gs≤B
 | [],m,B,h,_=>h
 | a :: gs,m,B,h,h2=>by
  rw [colsOf_cons]
  exact colsOf_le (Int.max_le.2 ⟨h,h2 a (by simp)⟩) (fun b hb=>h2 b (by simp [hb]))
theorem cols_bounds {t:T} (hl:Low t) (hc:t.cols.length≤8):1≤colsOf (max 1 (t.cols.length:Int)) (gridOf t)∧colsOf (max 1 (t.cols.length:Int)) (gridOf t)≤88∧(t.cols.length:Int)≤colsOf (max 1 (t.cols.length:Int)) (gridOf t):=by
 have h1:=colsOf_ge (gridOf t) (max 1 (t.cols.length:Int))
 have h2:colsOf (max 1 (t.cols.length:Int)) (gridOf t)≤88:=colsOf_le (by omega) (fun a ha=>by have:=stands_of hl ha;unfold Stands at this;omega)
 omega
end Go.Proofs.YtojogjlblgcioanGreat
namespace Go.Proofs.YtojogjlblgcioanGreat
open Go.RowKit
def TA (w:World) (z:Nat) (ac ar:Option Addr) (cc cr:Nat) (t:T):Prop:=ColsAt w z (.slice ac t.cols.length cc) t.cols∧RowsAt w z (.slice ar t.rows.length cr) t.rows
theorem TA.kept {w w':World} {z:Nat} {ac ar:Option Addr} {cc cr:Nat} {t:T} (h:TA w z ac ar cc cr t) (hb:Below w.heap.size w w'):TA w' z ac ar cc cr t:=⟨h.1.kept hb,h.2.kept hb⟩
def St (w:World) (tb:Nat) (ac ar:Option Addr) (cc cr:Nat) (t:T) (W:World):Prop:=Below w.heap.size w W∧TA W w.heap.size ac ar cc cr t∧W.heap[tb]?=some (.cells #[.slice ac t.cols.length cc,.int .i64 t.head,.int .i64 t.foot,.slice ar t.rows.length cr,.int .i64 t.gap] 26)
theorem St.kept {w W W':World} {tb:Nat} {ac ar:Option Addr} {cc cr:Nat} {t:T} (h:St w tb ac ar cc cr t W) (hb:Below W.heap.size W W'):St w tb ac ar cc cr t W' :=
 ⟨h.1.trans (hb.mono h.1.size),h.2.1.kept hb,(hb.block tb (bL h.2.2)).trans h.2.2⟩
theorem St.at {w W:World} {tb:Nat} {ac ar:Option Addr} {cc cr:Nat} {t:T} (h:St w tb ac ar cc cr t W):(W.cell? ⟨tb,0,none⟩=some (.slice ac t.cols.length cc)∧W.cell? ⟨tb,1,none⟩=some (.int .i64 t.head)∧W.cell? ⟨tb,2,none⟩=some (.int .i64 t.foot)∧W.cell? ⟨tb,3,none⟩=some (.slice ar t.rows.length cr)∧W.cell? ⟨tb,4,none⟩=some (.int .i64 t.gap)):=(fiveZ h.2.2).1
theorem gOf_gok {t:T} (hD:Drawn t):∀ x ∈ (gOf t).cells,GOk x:=by
 unfold gOf
 split
 ·rename_i h
  have hl:=low_of h hD
  exact fun x hx=>(stands_of hl hx).gok hl.rows
 ·intro x hx
  cases hx
def SGr (w:World) (tb gb:Nat) (ac ar:Option Addr) (cc cr:Nat) (t:T) (ag:Option Addr) (cg:Nat) (W:World):Prop :=
 St w tb ac ar cc cr t W∧GsAt W w.heap.size (.slice ag (gOf t).cells.length cg) (gOf t).cells∧W.heap[gb]?=some (.cells #[.int .i64 (gOf t).rows,.int .i64 (gOf t).cols,.slice ag (gOf t).cells.length cg] 34)
theorem SGr.kept {w W W':World} {tb gb:Nat} {ac ar ag:Option Addr} {cc cr cg:Nat} {t:T} (h:SGr w tb gb ac ar cc cr t ag cg W) (hb:Below W.heap.size W W'):SGr w tb gb ac ar cc cr t ag cg W' :=
 ⟨h.1.kept hb,h.2.1.kept hb,(hb.block gb (bL h.2.2)).trans h.2.2⟩
theorem SGr.at {w W:World} {tb gb:Nat} {ac ar ag:Option Addr} {cc cr cg:Nat} {t:T} (h:SGr w tb gb ac ar cc cr t ag cg W):W.cell? ⟨gb,0,none⟩=some (.int .i64 (gOf t).rows)∧W.cell? ⟨gb,1,none⟩=some (.int .i64 (gOf t).cols)∧W.cell? ⟨gb,2,none⟩=some (.slice ag (gOf t).cells.length cg) :=
 ⟨cellB h.2.2,cellB h.2.2,cellB h.2.2⟩
theorem own_slice {w:World} {base:Nat} {v:Value} {gs:List GC} (h:OwnG w base v gs):∃ a cap,v=.slice a gs.length cap:=by
 rcases h.2 with ⟨rfl,hn⟩ | ⟨g,cap,cur,rfl,_⟩
 ·exact ⟨none,0,by rw [hn]⟩
 ·exact ⟨_,cap,rfl⟩
theorem gOf_ok {t:T} (h:tblB t=true):gOf t=⟨t.rows.length,colsOf (max 1 (t.cols.length:Int)) (gridOf t),gridOf t⟩:=by unfold gOf;rw [if_pos h]
theorem gOf_no {t:T} (h:tblB t=false):gOf t=⟨0,0,[]⟩:=by unfold gOf;rw [if_neg (by rw [h];simp)]
def SCe (w:World) (tb gb cb:Nat) (ac ar:Option Addr) (cc cr:Nat) (t:T) (ag:Option Addr) (cg:Nat) (x:GC) (W:World):Prop :=
 SGr w tb gb ac ar cc cr t ag cg W∧W.heap[cb]?=some (.cells #[.int .i64 x.row,.int .i64 x.col,.int .i64 x.rows,.int .i64 x.cols,.int .i64 x.ins] 78)
theorem SCe.kept {w W W':World} {tb gb cb:Nat} {ac ar ag:Option Addr} {cc cr cg:Nat} {t:T} {x:GC} (h:SCe w tb gb cb ac ar cc cr t ag cg x W) (hb:Below W.heap.size W W'):SCe w tb gb cb ac ar cc cr t ag cg x W' :=
 ⟨h.1.kept hb,(hb.block cb (bL h.2)).trans h.2⟩
theorem SCe.at {w W:World} {tb gb cb:Nat} {ac ar ag:Option Addr} {cc cr cg:Nat} {t:T} {x:GC} (h:SCe w tb gb cb ac ar cc cr t ag cg x W):W.cell? ⟨cb,0,none⟩=some (.int .i64 x.row)∧W.cell? ⟨cb,1,none⟩=some (.int .i64 x.col)∧W.cell? ⟨cb,2,none⟩=some (.int .i64 x.rows)∧W.cell? ⟨cb,3,none⟩=some (.int .i64 x.cols)∧W.cell? ⟨cb,4,none⟩=some (.int .i64 x.ins) :=
 ⟨cellB h.2,cellB h.2,cellB h.2,cellB h.2,cellB h.2⟩
def Small (x:GC):Prop:=(0≤x.row∧x.row≤8)∧(0≤x.col∧x.col≤84)∧(1≤x.rows∧x.rows≤3)∧(1≤x.cols∧x.cols≤4)∧0≤x.ins∧x.ins≤4
theorem Stands.small {n:Nat} {a:GC} (hn:n≤8) (h:Stands n a):Small a:=by
 unfold Stands at h
 unfold Small
 omega
def passTo (p:GC→Int) (gap s:Int) (gs:List GC) (l:List Int):Nat→List Int
 | 0=>l
 | k+1=>if (gs.getD k dG).cols=s then wideL (passTo p gap s gs l k) (gs.getD k dG).col.toNat (gs.getD k dG).cols.toNat gap (p (gs.getD k dG)) else passTo p gap s gs l k
def needTo (p:GC→Int) (gap:Int) (gs:List GC) (l:List Int):Nat→List Int
 | 0=>l
 | s+1=>passTo p gap ((s+1:Nat):Int) gs (needTo p gap gs l s) gs.length
theorem passTo_len (p:GC→Int) (gap s:Int) (gs:List GC) (l:List Int):∀ k,(passTo p gap s gs l k).length=l.length
 | 0=>rfl
 | k+1=>by rw [passTo];split;rw [wideL_len];exact passTo_len p gap s gs l k;exact passTo_len p gap s gs l k
theorem needTo_len (p:GC→Int) (gap:Int) (gs:List GC) (l:List Int):∀ s,(needTo p gap gs l s).length=l.length
 | 0=>rfl
 | s+1=>by rw [needTo,passTo_len,needTo_len p gap gs l s]
def textOf (t:T) (x:GC):ByteArray:=((t.rows.getD x.row.toNat dR).cells.getD x.ins.toNat dC).s
structure Cel (t:T) (C:Nat) (x:GC):Prop where
 ex:∃ rn jn cn mn:Nat,x.row=rn∧x.ins=jn∧x.col=cn∧x.cols=mn∧rn < t.rows.length∧jn < (t.rows.getD rn dR).cells.length∧cn+mn≤C∧1≤mn∧mn≤4
 gap:0≤t.gap∧t.gap≤3
 rows:0≤x.rows∧x.rows≤8
theorem cel_of {t:T} (hD:Drawn t):(gOf t).cells.length≤40∧∃ C:Nat,(gOf t).cols=C∧C≤88∧∀ k,k < (gOf t).cells.length→Cel t C ((gOf t).cells.getD k dG):=by
 cases h:tblB t with
 | false=>rw [gOf_no h];exact ⟨by simp,0,rfl,by omega,fun k hk=>absurd hk (Nat.not_lt_zero _)⟩
 | true =>
  have hl:=low_of h hD
  have h8:=hl.rows
  have h40:=grid_len hl t.rows.length
  have hg:0≤t.gap∧t.gap≤3:=by
   simp only [tblB,inB,Bool.and_eq_true,decide_eq_true_eq] at h
   exact h.2.2.1
  have hc:t.cols.length≤8:=by
   simp only [tblB,colsB,Bool.and_eq_true,decide_eq_true_eq] at h
   omega
  have hcb:=cols_bounds hl hc
  rw [gOf_ok h]
  refine ⟨by show (gridTo t t.rows.length).length≤40;omega,(colsOf (max 1 (t.cols.length:Int)) (gridOf t)).toNat,by show colsOf (max 1 (t.cols.length:Int)) (gridOf t)=_;omega,by omega,fun k hk=>⟨?_,hg,?_⟩⟩
  ·have hk':k < (gridOf t).length:=hk
   obtain ⟨r,j,hr,hj,e⟩:=(laid_of hl hk').ex
   have hst:=stands_of hl (getD_mem' (d:=dG) hk')
   have hm:=colsOf_mem (m:=max 1 (t.cols.length:Int)) (getD_mem' (d:=dG) hk')
   have e1:((gridOf t).getD k dG).row=r:=by rw [e];rfl
   have e2:((gridOf t).getD k dG).ins=j:=by rw [e];rfl
   unfold Stands at hst
   show ∃ rn jn cn mn:Nat,((gridOf t).getD k dG).row=rn∧((gridOf t).getD k dG).ins=jn∧((gridOf t).getD k dG).col=cn∧((gridOf t).getD k dG).cols=mn∧_
   refine ⟨r,j,((gridOf t).getD k dG).col.toNat,((gridOf t).getD k dG).cols.toNat,e1,e2,by omega,by omega,hr,hj,by omega,by omega,by omega⟩
  ·have hk':k < (gridOf t).length:=hk
   have hst:=stands_of hl (getD_mem' (d:=dG) hk')
   unfold Stands at hst
   show 0≤((gridOf t).getD k dG).rows∧((gridOf t).getD k dG).rows≤8
   omega
theorem pass_up {t:T} {C:Nat} {gs:List GC} {p:GC→Int} {l:List Int} {B s:Int} (hC:∀ k,k < gs.length→Cel t C (gs.getD k dG)) (hl:l.length=C) (hp:∀ x,p x≤30) (hb:UpB l B) (hB:B+30 * gs.length≤50000):∀ k,k≤gs.length→UpB (passTo p t.gap s gs l k) (B+30 * (k:Int))
 | 0,_=>by intro i hi;have:=hb i hi;show 0≤l.getD i 0∧l.getD i 0≤_;omega
 | k+1,hk=>by
  have ih:=pass_up (s:=s) hC hl hp hb hB k (by omega)
  have hx:=hC k (by omega)
  rw [passTo]
  split
  ·obtain ⟨rn,jn,cn,mn,e1,e2,e3,e4,h1,h2,h3,h4,h5⟩:=hx.ex
   rw [e3,e4,Int.toNat_natCast,Int.toNat_natCast]
   have:=wideL_upB ih (by omega) (by rw [passTo_len,hl];exact h3) ⟨h4,h5⟩ hx.gap (hp (gs.getD k dG)) (c:=cn) (m:=mn)
   intro i hi
   have:=this i hi
   omega
  ·intro i hi
   have:=ih i hi
   omega
theorem need_up {t:T} {C:Nat} {gs:List GC} {p:GC→Int} {l:List Int} (hC:∀ k,k < gs.length→Cel t C (gs.getD k dG)) (h40:gs.length≤40) (hl:l.length=C) (hp:∀ x,p x≤30) (hb:UpB l 0):∀ s,s≤4→UpB (needTo p t.gap gs l s) (1200 * (s:Int))
 | 0,_=>by intro i hi;have:=hb i hi;show 0≤l.getD i 0∧l.getD i 0≤_;omega
 | s+1,hs=>by
  have ih:=need_up hC h40 hl hp hb s (by omega)
  have:=pass_up (s:=((s+1:Nat):Int)) hC (by rw [needTo_len];exact hl) hp ih (by omega) gs.length (Nat.le_refl _)
  intro i hi
  have:=this i hi
  rw [needTo]
  omega
theorem kind_small {a:Int} (h:-9223372036854775808≤a∧a≤9223372036854775807):IntKind.i64.wrap a=a:=by rw [IntKind.wrap_i64];omega
theorem slice_facts {cn m C:Nat} (h:cn+(m+1)≤C) (hC:C≤88):(cn:Int)≤(cn:Int)+((m:Int)+1)∧(cn:Int)+((m:Int)+1)≤(C:Int)∧(0:Int)≤(cn:Int)+((m:Int)+1)∧((cn:Int)+((m:Int)+1)).toNat=cn+(m+1)∧cn+(m+1) - cn=m+1∧¬ C=cn∧wrap64 ((cn:Int)+((m:Int)+1))=(cn:Int)+((m:Int)+1)∧IntKind.i64.wrap ((cn:Int)+((m:Int)+1))=(cn:Int)+((m:Int)+1):=by
 have e:-9223372036854775808≤(cn:Int)+((m:Int)+1)∧(cn:Int)+((m:Int)+1)≤9223372036854775807:=by omega
 exact ⟨by omega,by omega,by omega,by omega,by omega,by omega,W_small e,kind_small e⟩
theorem slice_facts2 {cn m C:Nat} (h:cn+(m+1)≤C) (hC:cn+(m+1)≤88):(cn:Int)≤(cn:Int)+((m:Int)+1)∧(cn:Int)+((m:Int)+1)≤(C:Int)∧(0:Int)≤(cn:Int)+((m:Int)+1)∧((cn:Int)+((m:Int)+1)).toNat=cn+(m+1)∧cn+(m+1) - cn=m+1∧¬ C=cn∧wrap64 ((cn:Int)+((m:Int)+1))=(cn:Int)+((m:Int)+1)∧IntKind.i64.wrap ((cn:Int)+((m:Int)+1))=(cn:Int)+((m:Int)+1):=by
 have e:-9223372036854775808≤(cn:Int)+((m:Int)+1)∧(cn:Int)+((m:Int)+1)≤9223372036854775807:=by omega
 exact ⟨by omega,by omega,by omega,by omega,by omega,by omega,W_small e,kind_small e⟩
theorem idx_facts {cn j C:Nat} (h:cn+j < C) (hC:C≤88):(0:Int)≤(cn:Int)+(j:Int)∧(cn:Int)+(j:Int) < (C:Int)∧((cn:Int)+(j:Int)).toNat=cn+j∧wrap64 ((cn:Int)+(j:Int))=(cn:Int)+(j:Int)∧IntKind.i64.wrap ((cn:Int)+(j:Int))=(cn:Int)+(j:Int):=by
 have e:-9223372036854775808≤(cn:Int)+(j:Int)∧(cn:Int)+(j:Int)≤9223372036854775807:=by omega
 exact ⟨by omega,by omega,by omega,W_small e,kind_small e⟩
def zeroL (n:Nat):List Int:=List.replicate n 0
theorem zero_up (n:Nat):UpB (zeroL n) 0:=by
 intro i hi
 simp [zeroL] at hi
 simp [zeroL,List.getD,hi]
def Ws (w:World) (z gb:Nat) (ac ar:Option Addr) (cc cr:Nat) (t:T) (ag:Option Addr) (cg:Nat) (W:World):Prop :=
 Below w.heap.size w W∧TA W z ac ar cc cr t∧W.heap[w.heap.size]?=some (.cells #[.slice ac t.cols.length cc,.int .i64 t.head,.int .i64 t.foot,.slice ar t.rows.length cr,.int .i64 t.gap] 26)∧GsAt W w.heap.size (.slice ag (gOf t).cells.length cg) (gOf t).cells∧W.heap[gb]?=some (.cells #[.int .i64 (gOf t).rows,.int .i64 (gOf t).cols,.slice ag (gOf t).cells.length cg] 34)
theorem Ws.kept {w W W':World} {z gb:Nat} {ac ar ag:Option Addr} {cc cr cg:Nat} {t:T} (h:Ws w z gb ac ar cc cr t ag cg W) (hb:Below W.heap.size W W'):Ws w z gb ac ar cc cr t ag cg W' :=
 ⟨h.1.trans (hb.mono h.1.size),h.2.1.kept hb,(hb.block _ (bL h.2.2.1)).trans h.2.2.1,h.2.2.2.1.kept hb,(hb.block gb (bL h.2.2.2.2)).trans h.2.2.2.2⟩
theorem Ws.at {w W:World} {z gb:Nat} {ac ar ag:Option Addr} {cc cr cg:Nat} {t:T} (h:Ws w z gb ac ar cc cr t ag cg W):W.cell? ⟨w.heap.size,3,none⟩=some (.slice ar t.rows.length cr)∧W.cell? ⟨w.heap.size,4,none⟩=some (.int .i64 t.gap)∧W.cell? ⟨gb,1,none⟩=some (.int .i64 (gOf t).cols)∧W.cell? ⟨gb,2,none⟩=some (.slice ag (gOf t).cells.length cg) :=
 ⟨cellB h.2.2.1,cellB h.2.2.1,cellB h.2.2.2.2,cellB h.2.2.2.2⟩
theorem sub_facts {L:List Int} {B:Int} (hub:UpB L B) (hB:B≤50000) {cn m C:Nat} (hll:L.length=C) (h3:cn+m≤C) (hm:m≤4):(subL L cn m).all wtB=true∧(0≤(subL L cn m).sum∧(subL L cn m).sum≤200000)∧(subL L cn m).length=m:=by
 have hc:cn+m≤L.length:=by omega
 have hb:∀ x ∈ subL L cn m,0≤x∧x≤50000:=fun x hx=>by have:=hub.mem (subL_mem hx);omega
 have hs:=sum_upB hb
 rw [subL_len hc] at hs
 refine ⟨?_,by omega,subL_len hc⟩
 rw [List.all_eq_true]
 intro x hx
 have:=hb x hx
 simp only [wtB,decide_eq_true_eq]
 omega
theorem gap_facts {gap:Int} (hg:0≤gap∧gap≤3) {m:Nat} (hm:m < 4):0≤gap * (m:Int)∧gap * (m:Int)≤9:=⟨Int.mul_nonneg hg.1 (by omega),Int.le_trans (Int.mul_le_mul hg.2 (show (m:Int)≤3 by omega) (by omega) (by omega)) (by omega)⟩
def rcOf (x:GC) (l:List ByteArray):RCell:=(x.row.toNat,x.rows.toNat,(l.length:Int))
def rcs (gs:List GC) (ls:List (List ByteArray)):List RCell:=List.zipWith rcOf gs ls
theorem rcs_len {gs:List GC} {ls:List (List ByteArray)} (h:ls.length=gs.length):(rcs gs ls).length=gs.length:=by rw [rcs,List.length_zipWith,h,Nat.min_self]
theorem rcs_get {gs:List GC} {ls:List (List ByteArray)} (h:ls.length=gs.length) {k:Nat} (hk:k < gs.length):(rcs gs ls)[k]?=some (rcOf (gs.getD k dG) (ls.getD k [])):=by
 have hk2:k < ls.length:=by omega
 simp [rcs,List.getElem?_zipWith,List.getD,hk,hk2]
theorem rcs_all {gs:List GC} {ls:List (List ByteArray)} (h:ls.length=gs.length) {p:RCell→Prop} (hp:∀ k,k < gs.length→p (rcOf (gs.getD k dG) (ls.getD k []))):∀ c ∈ rcs gs ls,p c:=by
 intro c hc
 obtain ⟨k,hk,e⟩:=List.mem_iff_getElem.mp hc
 have hk2:k < gs.length:=by rw [rcs_len h] at hk;exact hk
 have:=rcs_get h hk2
 rw [List.getElem?_eq_getElem hk,e] at this
 rw [Option.some.inj this]
 exact hp k hk2
def curV (cs:List RCell) (r k:Nat):Int:=(cs.take k).foldl (rowStep (rowsL cs r)) 0
def hsL (cs:List RCell) (R r k:Nat):List Int:=rowsL cs r ++ (curV cs r k :: zeroL (R - (r+1)))
theorem hsL_len (cs:List RCell) {R r:Nat} (k:Nat) (h:r < R):(hsL cs R r k).length=R:=by
 simp [hsL,rowsL_len,zeroL];omega
theorem hsL_none (cs:List RCell) {R r:Nat} (h:r < R):rowsL cs r ++ zeroL (R - r)=hsL cs R r 0:=by
 rw [hsL,show R - r=(R - (r+1))+1 by omega,zeroL,List.replicate_succ]
 rfl
theorem hsL_all (cs:List RCell) (R r:Nat):hsL cs R r cs.length=rowsL cs (r+1) ++ zeroL (R - (r+1)):=by
 rw [hsL,curV,List.take_length,rowsL,List.append_assoc]
 rfl
theorem hsL_get (cs:List RCell) (R r k:Nat):(hsL cs R r k).getD r 0=curV cs r k:=by
 rw [hsL,List.getD_eq_getElem?_getD,List.getElem?_append_right (by rw [rowsL_len];exact Nat.le_refl _),rowsL_len,Nat.sub_self]
 rfl
theorem hsL_set (cs:List RCell) (R r k:Nat) (y:Int):(hsL cs R r k).set r y=rowsL cs r ++ (y :: zeroL (R - (r+1))):=by
 rw [hsL,List.set_append_right _ _ (by rw [rowsL_len];exact Nat.le_refl _),rowsL_len,Nat.sub_self]
 rfl
theorem cur_next {cs:List RCell} {r k:Nat} {c:RCell} (h:cs[k]?=some c):curV cs r (k+1)=rowStep (rowsL cs r) (curV cs r k) c:=by
 rw [curV,List.take_add_one,h,List.foldl_append]
 rfl
theorem hsL_same {cs:List RCell} {R r k:Nat} {c:RCell} (h:cs[k]?=some c) (he:c.1+c.2.1 ≠ r+1):hsL cs R r (k+1)=hsL cs R r k:=by
 rw [hsL,cur_next h,rowStep,if_neg (by rw [rowsL_len];exact he),hsL]
theorem hsL_more {cs:List RCell} {R r k:Nat} {c:RCell} (h:cs[k]?=some c) (he:c.1+c.2.1=r+1):hsL cs R r (k+1)=(hsL cs R r k).set r (max (curV cs r k) (c.2.2 - ((rowsL cs r).sum - sumTo (rowsL cs r) c.1))):=by
 rw [hsL_set,hsL,cur_next h,rowStep,if_pos (by rw [rowsL_len];exact he)]
theorem cur_bound {cs:List RCell} {M:Int} (hM:0≤M) (hc:∀ c ∈ cs,c.2.2≤M) (r k:Nat):0≤curV cs r k∧curV cs r k≤M:=by
 refine ⟨fold_ge _ _ 0,fold_max _ _ 0 (fun c h2=>?_) hM⟩
 have h3:=span_nn (rows_nn cs r) c.1
 have h4:=hc c (List.mem_of_mem_take h2)
 omega
theorem sum_upM:∀ {l:List Int},(∀ x ∈ l,0≤x∧x≤1000)→l.sum≤1000 * (l.length:Int)
 | [],_=>by simp
 | y :: l,h=>by
  have h1:=h y (List.mem_cons_self ..)
  have h2:=sum_upM (l:=l) (fun x hx=>h x (List.mem_cons_of_mem _ hx))
  simp only [List.sum_cons,List.length_cons]
  omega
theorem infoSt:(Tryz.prog.info? 9).map (fun i=>(i.zero,i.size,i.bytes))=some (some (Value.string ⟨#[]⟩),1,16):=by kernel_rfl
theorem extract_next {s:ByteArray} {j k:Nat} (hj:j≤k) (hk:k < s.size):s.extract j k ++ ⟨#[s[k]]⟩=s.extract j (k+1):=by
 apply Go.WideShapes.bytes_inj
 rw [Joins.data_append,ByteArray.data_extract,ByteArray.data_extract]
 have hk':k < s.data.size:=hk
 rw [Array.toList_extract,Array.toList_extract]
 have e:s[k]=s.data.toList[k]'(by simpa using hk'):=rfl
 rw [e]
 simp only [List.extract_eq_take_drop]
 rw [show k+1 - j=(k - j)+1 by omega,List.take_succ_eq_append_getElem (by rw [List.length_drop];simp;omega),List.getElem_drop]
 simp [show j+(k - j)=k by omega]
set_option maxRecDepth 100000 in
set_option maxHeartbeats 1000000 in
theorem specCut (s:ByteArray) (hok:txtOkB s=true) (hz:0 < s.size) (w:World) :
  Calls Tryz.prog 195 #[.string s] w fun e w'=>∃ v,e=.returned v∧w'.ownsRow w.heap.size 9 1 v (wordsFrom s 0).length ((wordsFrom s 0).map Value.string)∧Below w.heap.size w w':=by
 obtain ⟨i0,hi,hz0,hz1,hz2⟩:=info_parts infoSt
 have h30:s.size≤30:=((txtOkB_iff s).1 hok).1
 go_enter Tryz.func195,Tryz.ntmps195
 go_wp2_with fail
 go_loopw [3,4,5] (fun o c i W=>∃ (k j:Nat) (out:List ByteArray),k≤s.size∧i=.int .i64 k∧c=.string (s.extract j k)∧j≤k∧j < s.size∧Hid (∀ m,j≤m→m < k→ch s m ≠ 32)∧Hid (Start s j)∧Hid (wordsFrom s 0=out ++ wordsFrom s j)∧Hid (W.ownsRow w.heap.size 9 1 o out.length (out.map Value.string))∧Hid (Below w.heap.size w W)) (fun _ _ i _=>s.size - (intOf i).toNat)
 case atStart=>exact ⟨0,0,[],Nat.zero_le _,rfl,congrArg Value.string (by rw [ByteArray.extract_same];rfl),Nat.le_refl _,hz,fun m h1 h2=>absurd h2 (Nat.not_lt_zero _),start_zero hok,(List.nil_append _).symm,World.ownsRow_made w #[] 0 (Nat.le_refl _) (Nat.zero_le _) rfl,k_alloc (Below.refl _ _) _⟩
 case round =>
  obtain ⟨k,j,out,hk,rfl,rfl,hj,hjk,HN,HS,HO,HR,HB⟩:=hrel
  have hol:out.length≤s.size:=by have:=wordsFrom_len s 0;rw [HO.out] at this;simp at this;omega
  by_cases hlt:k < s.size
  ·have HC:Hid (ch s k=(s[k].toNat:Int)):=ch_at hlt
   by_cases hc:(s[k].toNat:Int)=32
   ·have hc':((s[k].toNat:Int) == 32)=true:=beq_iff_eq.2 hc
    go_wp2_with (at_builtin;refine wpList_append_own _ rfl _ _ 56 rfl w.heap.size 9 i0 (.string ⟨#[]⟩) 1 16 Tryz.underlying56 hi hz0 hz1 hz2 rfl (by decide) _ _ _ rfl (HR.out.alloc _) ⟨wr.heap.size,0,none⟩ 1 1 [.string (s.extract j k)] rfl rfl ?c1 ?c2 ?c3 ?c4 ?c5 ?_)
    case c1 =>
     intro i u hi
     match i,hi with
     | 0,hi=>simp at hi;subst hi;simp [Addr.add]
    case c2=>intro u hu;simp at hu;subst hu;rfl
    case c3=>unfold maxLen;omega
    case c4=>omega
    case c5=>have:=HB.out.size;simp;omega
    intro v' w2 hown' hgrow' _
    have HB2:=Hd ((k_alloc HB.out (.cells #[.string (s.extract j k)] 9)).grown hgrow' (by have:=HB.out.size;simp;omega) (fun b hb=>(HR.out.lt b hb).1))
    have HE:Hid (wend s j=k):=wend_of HN.out hj (Nat.le_of_lt hlt) (fun _=>HC.out.trans hc)
    have hk1:k+1 < s.size:=by
     have hg:=((txtOkB_iff s).1 hok).2 k hlt
     simp [goodB,HC.out.trans hc] at hg
     omega
    have HW2:Hid (wordsFrom s 0=(out ++ [s.extract j k]) ++ wordsFrom s (k+1)):=by
     show _=_
     rw [HO.out,wordsFrom_go hjk,HE.out];simp
    have HS2:Hid (Start s (k+1)):=by
     have:=(start_next hok hjk HS.out).2.2.1
     rw [HE.out] at this
     exact this
    have HR2:=Hd hown'
    obtain ⟨g',cap',rfl⟩:=Joins.ownsRow_form hown' (by omega)
    clear hown' hgrow' HR HB
    go_wp2
    go_roundw
    case rel=>exact ⟨k+1,k+1,out ++ [s.extract j k],by omega,by go_num,congrArg Value.string (by rw [ByteArray.extract_same];rfl),Nat.le_refl _,hk1,fun m h1 h2=>absurd h2 (by omega),HS2,HW2,by rw [List.length_append,List.map_append];exact HR2,HB2⟩
    case measure=>simp [intOf];omega
   ·have hc':((s[k].toNat:Int) == 32)=false:=beq_eq_false_iff_ne.2 hc
    have hcv:(convert 22 9 (.slice (some ⟨wr.heap.size,0,none⟩) 1 1)).run Tryz.prog (wr.alloc (.cells #[.int .u8 (s[k].toNat:Int)] 5))=.ok (.string ⟨#[s[k]]⟩) (wr.alloc (.cells #[.int .u8 (s[k].toNat:Int)] 5)) :=
     run_convert_bytes_back _ _ _ 5 ⟨wr.heap.size,0,none⟩ 1 [s[k]] Tryz.underlying22 Tryz.underlying5 Tryz.underlying9 (fun i hi=>by
      match i,hi with
      | 0,_=>simp [Addr.add])
    have hz1:¬ 9223372036854775807 < (s.extract j k).size+1:=by rw [ByteArray.size_extract];omega
    have HX:=Hd (extract_next hj hlt)
    have hc2:ch s k ≠ 32:=fun h=>hc (HC.out.symm.trans h)
    have HN2:Hid (∀ m,j≤m→m < k+1→ch s m ≠ 32):=fun m h1 h2=>by
     rcases Nat.lt_or_eq_of_le (Nat.lt_succ_iff.1 h2) with h3 | rfl
     ·exact HN.out m h1 h3
     ·exact hc2
    go_wp2
    go_roundw
    case rel=>exact ⟨k+1,j,out,by omega,by go_num,congrArg Value.string HX.out,by omega,hjk,HN2,HS,HO,HR.out.alloc _,k_alloc HB.out _⟩
    case measure=>simp [intOf];omega
  ·obtain rfl:k=s.size:=by omega
   have HE:Hid (wend s j=s.size):=wend_of HN.out hj (Nat.le_refl _) (fun h=>absurd h (Nat.lt_irrefl _))
   have HW2:Hid (wordsFrom s 0=out ++ [s.extract j s.size]):=by
    show _=_
    rw [HO.out,wordsFrom_go hjk,HE.out,wordsFrom_end (by omega)]
   go_wp2_with (at_builtin;refine wpList_append_own _ rfl _ _ 56 rfl w.heap.size 9 i0 (.string ⟨#[]⟩) 1 16 Tryz.underlying56 hi hz0 hz1 hz2 rfl (by decide) _ _ _ rfl (HR.out.alloc _) ⟨wr.heap.size,0,none⟩ 1 1 [.string (s.extract j s.size)] rfl rfl ?c1 ?c2 ?c3 ?c4 ?c5 ?_)
   case c1 =>
    intro i u hi
    match i,hi with
    | 0,hi=>simp at hi;subst hi;simp [Addr.add]
   case c2=>intro u hu;simp at hu;subst hu;rfl
   case c3=>unfold maxLen;omega
   case c4=>omega
   case c5=>have:=HB.out.size;simp;omega
   intro v' w2 hown' hgrow' _
   have HB2:=Hd ((k_alloc HB.out (.cells #[.string (s.extract j s.size)] 9)).grown hgrow' (by have:=HB.out.size;simp;omega) (fun b hb=>(HR.out.lt b hb).1))
   have HR2:=Hd hown'
   obtain ⟨g',cap',rfl⟩:=Joins.ownsRow_form hown' (by omega)
   clear hown' hgrow' HR HB
   go_wp2
   go_ret
   exact ⟨_,rfl,by rw [HW2.out,List.length_append,List.map_append];exact HR2.out,HB2.out⟩
theorem words_get {w:World} {B:Nat} {v:Value} {l:List ByteArray} (h:w.ownsRow B 9 1 v l.length (l.map Value.string)) {i:Nat} (hi:i < l.length) :
  ∃ g cap,v=.slice (some ⟨g,0,none⟩) l.length cap∧l.length≤cap∧cap≤maxLen∧w.cell? ⟨g,i,none⟩=some (.string l[i]):=by
 rcases h.2 with ⟨_,h0⟩ | ⟨g,cap,cur,hv,_,hg,h1,h2,h3,h4⟩
 ·omega
 ·refine ⟨g,cap,hv,h1,h2,?_⟩
  rw [cellB hg]
  have:cur.toList[i]?=(l.map Value.string)[i]?:=by rw [← h4,List.getElem?_take_of_lt (by omega)]
  rw [← Array.getElem?_toList,this]
  simp [hi]
set_option maxRecDepth 100000 in
set_option maxHeartbeats 1000000 in
theorem specTxtWords (s:ByteArray) (hs:s.size≤maxLen) (w:World) :
  Calls Tryz.prog 169 #[.string s] w fun e w'=>∃ v,e=.returned v∧w'.ownsRow w.heap.size 9 1 v (wordsW s).length ((wordsW s).map (fun x=>Value.string x.1))∧Below w.heap.size w w':=by
 by_cases hz:s.size=0
 ·have hw0:wordsW s=[]:=by
   rw [wordsW]
   split
   ·rw [wordsFrom_end (by omega)];rfl
   ·rfl
  have hnil:=toList_nil hz
  have HW:=Hd hw0
  clear hw0
  go_enter Tryz.func169,Tryz.ntmps169
  go_wp2
  all_goals
   go_ret
   exact ⟨_,rfl,by rw [HW.out];exact World.ownsRow_made w #[] 0 (Nat.le_refl _) (Nat.zero_le _) rfl,k_alloc (Below.refl _ _) _⟩
 ·have he:¬ s.toList=[]:=fun h=>hz (size_nil h)
  have he':s.toList.isEmpty=false:=by simpa using he
  cases hok:txtOkB s with
  | false =>
   have hw0:wordsW s=[]:=by rw [wordsW,if_neg (by rw [hok];simp)]
   go_enter Tryz.func169,Tryz.ntmps169
   have HW:=Hd hw0
   clear hw0
   go_wp2_with (go_at_call 145;refine (specTxtOk s w hs).mono ?_;rintro e w' ⟨rfl,rfl⟩;rw [hok])
   go_ret
   exact ⟨_,rfl,by rw [HW.out];exact World.ownsRow_made w' #[] 0 (Nat.le_refl _) (Nat.zero_le _) rfl,k_alloc (Below.refl _ _) _⟩
  | true =>
   have hp:0 < s.size:=by omega
   go_enter Tryz.func169,Tryz.ntmps169
   go_wp2_with (first
    | (go_at_call 145;refine (specTxtOk s _ hs).mono ?_;rintro e w' ⟨rfl,rfl⟩;rw [hok])
    | (go_at_call 195;refine (specCut s hok hp _).mono ?_;rintro e w' ⟨v,rfl,hv,hb⟩))
   go_ret
   exact ⟨_,rfl,by rw [words_len hok,words_map hok];exact hv,hb⟩
theorem wordsAt {w:World} {B:Nat} {v:Value} {l:List W30} (h:w.ownsRow B 9 1 v l.length (l.map (fun x=>Value.string x.1))) {i:Nat} (hi:i < l.length) :
  ∃ g cap,v=.slice (some ⟨g,0,none⟩) l.length cap∧l.length≤cap∧cap≤maxLen∧w.cell? ⟨g,i,none⟩=some (.string l[i].1):=by
 have e:l.map (fun x=>Value.string x.1)=(l.map (fun x=>x.1)).map Value.string:=by rw [List.map_map];rfl
 have el:l.length=(l.map (fun x:W30=>x.1)).length:=(List.length_map ..).symm
 rw [e,el] at h
 obtain ⟨g,cap,h1,h2,h3,h4⟩:=words_get h (i:=i) (by rw [List.length_map];exact hi)
 refine ⟨g,cap,by rw [el];exact h1,by rw [el];exact h2,h3,?_⟩
 rw [h4];simp
theorem words_form {w:World} {B:Nat} {v:Value} {l:List W30} (h:w.ownsRow B 9 1 v l.length (l.map (fun x=>Value.string x.1))):∃ a cap,v=.slice a l.length cap:=by
 rcases h.2 with ⟨hv,h0⟩ | ⟨g,cap,cur,hv,_⟩
 ·exact ⟨none,0,by rw [h0];exact hv⟩
 ·exact ⟨_,_,hv⟩
def LnOk (st:List ByteArray × ByteArray):Prop:=st.2.size=0→st.1=[]
theorem lnOk_step (q:Int) (st:List ByteArray × ByteArray) (x:W30):LnOk (stepLn q st x.1):=by
 have hx:=x.2.1
 intro h0
 unfold stepLn at h0 ⊢
 by_cases h1:0 < st.2.size
 ·by_cases h2:q < (st.2.size:Int)+1+x.1.size
  ·rw [if_pos h1,if_pos h2] at h0;dsimp only at h0;omega
  ·rw [if_pos h1,if_neg h2] at h0;dsimp only at h0;rw [ByteArray.size_append] at h0;omega
 ·rw [if_neg h1] at h0;dsimp only at h0;omega
theorem lnOk_all (q:Int) (ws:List W30):LnOk (lnSt q ws):=by
 suffices h:∀ (l:List W30) (st:List ByteArray × ByteArray),LnOk st→LnOk (l.foldl (fun st x=>stepLn q st x.1) st) from h ws _ (fun _=>rfl)
 intro l
 induction l with
 | nil=>intro st h;exact h
 | cons x r ih=>intro st _;exact ih _ (lnOk_step q st x)
def lastLn (l:List ByteArray):ByteArray:=l.getD (l.length - 1) eS
theorem out_line {st:List ByteArray × ByteArray} (h:(lnOut st).length ≠ 0) (hok:LnOk st):0 < st.2.size∧lnOut st=st.1 ++ [st.2]∧lastLn (lnOut st)=st.2:=by
 obtain ⟨lines,line⟩:=st
 have h0:0 < line.size:=by
  rcases Nat.eq_zero_or_pos line.size with h0 | h0
  ·have hl:lines=[]:=hok h0
   subst hl
   simp [lnOut,h0] at h
  ·exact h0
 have e:lnOut (lines,line)=lines ++ [line]:=by simp [lnOut,h0]
 refine ⟨h0,e,?_⟩
 rw [e]
 simp [lastLn,List.getD]
theorem out_bound (q:Int) (ws:List W30):(lnOut (lnSt q ws)).length≤ws.length+1∧(lastLn (lnOut (lnSt q ws))).size≤31 * ws.length:=by
 obtain ⟨h1,h2⟩:=lnSt_bound q ws
 constructor
 ·unfold lnOut
  split
  ·simp;omega
  ·omega
 ·rcases Nat.eq_zero_or_pos (lnOut (lnSt q ws)).length with h | h
  ·have:lnOut (lnSt q ws)=[]:=List.eq_nil_of_length_eq_zero h
   rw [this]
   simp [lastLn,eS]
  ·rw [(out_line (by omega) (lnOk_all q ws)).2.2];exact h2
def joinL:List ByteArray→ByteArray
 | []=>⟨#[]⟩
 | [x]=>x
 | x :: y :: r=>x ++ ⟨#[32]⟩ ++ joinL (y :: r)
def LeLn (a b:List ByteArray × ByteArray):Prop:=(lnOut a).length < (lnOut b).length∨(lnOut a).length=(lnOut b).length∧a.2.size≤b.2.size
theorem cnt_nil {q:Int} {st:List ByteArray × ByteArray} (h:¬ 0 < st.2.size) (x:W30):(lnOut (stepLn q st x.1)).length=(lnOut st).length+1∧(stepLn q st x.1).2.size=x.1.size:=by
 have hx:=x.2.1
 have e:stepLn q st x.1=(st.1,x.1):=by unfold stepLn;rw [if_neg h]
 rw [e]
 simp [lnOut,h,hx]
theorem cnt_break {q:Int} {st:List ByteArray × ByteArray} (h:0 < st.2.size) (x:W30) (hq:q < (st.2.size:Int)+1+x.1.size):(lnOut (stepLn q st x.1)).length=(lnOut st).length+1∧(stepLn q st x.1).2.size=x.1.size:=by
 have hx:=x.2.1
 have e:stepLn q st x.1=(st.1 ++ [st.2],x.1):=by unfold stepLn;rw [if_pos h,if_pos hq]
 rw [e]
 simp [lnOut,h,hx]
theorem cnt_fits {q:Int} {st:List ByteArray × ByteArray} (h:0 < st.2.size) (x:W30) (hq:¬ q < (st.2.size:Int)+1+x.1.size):(lnOut (stepLn q st x.1)).length=(lnOut st).length∧(stepLn q st x.1).2.size=st.2.size+1+x.1.size:=by
 have e:stepLn q st x.1=(st.1,st.2 ++ ⟨#[32]⟩ ++ x.1):=by unfold stepLn;rw [if_pos h,if_neg hq]
 have hz:(st.2 ++ ⟨#[32]⟩ ++ x.1).size=st.2.size+1+x.1.size:=by rw [ByteArray.size_append,ByteArray.size_append];rfl
 rw [e]
 refine ⟨?_,hz⟩
 have hp:0 < (st.2 ++ ⟨#[32]⟩ ++ x.1).size:=by omega
 simp only [lnOut,hp,h,if_true,List.length_append,List.length_cons,List.length_nil]
theorem cnt_zero {st:List ByteArray × ByteArray} (hok:LnOk st):(¬ 0 < st.2.size→(lnOut st).length=0)∧(0 < st.2.size→0 < (lnOut st).length):=by
 refine ⟨fun h=>?_,fun h=>?_⟩
 ·have:st.1=[]:=hok (by omega)
  simp [lnOut,h,this]
 ·simp [lnOut,h]
theorem wider_step {p q:Int} (hpq:p≤q) {a b:List ByteArray × ByteArray} (ha:LnOk a) (hb:LnOk b) (h:LeLn a b) (x:W30):LeLn (stepLn q a x.1) (stepLn p b x.1):=by
 have hx:=x.2.1
 obtain ⟨za,za'⟩:=cnt_zero ha
 obtain ⟨zb,zb'⟩:=cnt_zero hb
 unfold LeLn at h ⊢
 by_cases h1:0 < a.2.size
 ·have c1:=za' h1
  have h2:0 < b.2.size:=by
   by_cases h2:0 < b.2.size
   ·exact h2
   ·have:=zb h2;omega
  by_cases qa:q < (a.2.size:Int)+1+x.1.size
  ·obtain ⟨e1,e2⟩:=cnt_break h1 x qa
   by_cases qb:p < (b.2.size:Int)+1+x.1.size
   ·obtain ⟨e3,e4⟩:=cnt_break h2 x qb;omega
   ·obtain ⟨e3,e4⟩:=cnt_fits h2 x qb;omega
  ·obtain ⟨e1,e2⟩:=cnt_fits h1 x qa
   by_cases qb:p < (b.2.size:Int)+1+x.1.size
   ·obtain ⟨e3,e4⟩:=cnt_break h2 x qb;omega
   ·obtain ⟨e3,e4⟩:=cnt_fits h2 x qb;omega
 ·have c1:=za h1
  obtain ⟨e1,e2⟩:=cnt_nil (q:=q) h1 x
  by_cases h2:0 < b.2.size
  ·have:=zb' h2
   by_cases qb:p < (b.2.size:Int)+1+x.1.size
   ·obtain ⟨e3,e4⟩:=cnt_break h2 x qb;omega
   ·obtain ⟨e3,e4⟩:=cnt_fits h2 x qb;omega
  ·obtain ⟨e3,e4⟩:=cnt_nil (q:=p) h2 x
   have:=zb h2
   omega
theorem wider {p q:Int} (hpq:p≤q) (ws:List W30):(lnOut (lnSt q ws)).length≤(lnOut (lnSt p ws)).length:=by
 suffices h:∀ (l:List W30) (a b:List ByteArray × ByteArray),LnOk a→LnOk b→LeLn a b→LeLn (l.foldl (fun st x=>stepLn q st x.1) a) (l.foldl (fun st x=>stepLn p st x.1) b) by
  have:=h ws ([],⟨#[]⟩) ([],⟨#[]⟩) (fun _=>rfl) (fun _=>rfl) (Or.inr ⟨rfl,Nat.le_refl _⟩)
  unfold LeLn at this
  have e1:lnSt q ws=ws.foldl (fun st x=>stepLn q st x.1) ([],⟨#[]⟩):=rfl
  have e2:lnSt p ws=ws.foldl (fun st x=>stepLn p st x.1) ([],⟨#[]⟩):=rfl
  rw [e1,e2]
  omega
 intro l
 induction l with
 | nil=>intro a b _ _ h;exact h
 | cons x r ih=>intro a b ha hb h;exact ih _ _ (lnOk_step q a x) (lnOk_step p b x) (wider_step hpq ha hb h x)
theorem line_le {q:Int} {n:Nat} (hq:q≤(n:Int)) (ws:List W30) (hw:∀ x ∈ ws,x.1.size≤n):∀ y ∈ lnOut (lnSt q ws),y.size≤n:=by
 suffices h:∀ (l:List W30) (st:List ByteArray × ByteArray),(∀ x ∈ l,x.1.size≤n)→(∀ y ∈ st.1,y.size≤n)→st.2.size≤n→(∀ y ∈ (l.foldl (fun st x=>stepLn q st x.1) st).1,y.size≤n)∧(l.foldl (fun st x=>stepLn q st x.1) st).2.size≤n by
  obtain ⟨h1,h2⟩:=h ws ([],⟨#[]⟩) hw (fun y hy=>by cases hy) (Nat.zero_le _)
  intro y hy
  unfold lnOut at hy
  split at hy
  ·rcases List.mem_append.1 hy with hy | hy
   ·exact h1 y hy
   ·simp at hy;subst hy;exact h2
  ·exact h1 y hy
 intro l
 induction l with
 | nil=>intro st _ h1 h2;exact ⟨h1,h2⟩
 | cons x r ih =>
  intro st hx h1 h2
  have hx1:=hx x (List.mem_cons_self ..)
  refine ih _ (fun y hy=>hx y (List.mem_cons_of_mem _ hy)) ?_ ?_
  ·show ∀ y ∈ (stepLn q st x.1).1,y.size≤n
   unfold stepLn
   by_cases c1:0 < st.2.size
   ·by_cases c2:q < (st.2.size:Int)+1+x.1.size
    ·rw [if_pos c1,if_pos c2]
     intro y hy
     rcases List.mem_append.1 hy with hy | hy
     ·exact h1 y hy
     ·simp at hy;subst hy;exact h2
    ·rw [if_pos c1,if_neg c2];exact h1
   ·rw [if_neg c1];exact h1
  ·show (stepLn q st x.1).2.size≤n
   by_cases c1:0 < st.2.size
   ·by_cases c2:q < (st.2.size:Int)+1+x.1.size
    ·rw [(cnt_break c1 x c2).2];exact hx1
    ·rw [(cnt_fits c1 x c2).2];omega
   ·rw [(cnt_nil (q:=q) c1 x).2];exact hx1
end Go.Proofs.YtojogjlblgcioanGreat
