/-
  PROVED HERE: what holds between two operations of the four statements of l20AnyTable that draw their order. Also: 1 more texts of the same proof.
-/
import Derived.Test.YtggmjiddadjilalGreatB16
set_option maxRecDepth 1000000
set_option maxHeartbeats 40000000
namespace Go.Proofs.YtggmjiddadjilalGreat
open Value (int)
open IntKind (i64)
open Go.RowKit
theorem zfH (n:Nat) (hn:n<=9) (k:Int) (h0:0<=k) (h1:k < 3):∃ v:Int,(#[int i64 (-1),int i64 9,int i64 (n:Int)]:Array Value)[k.toNat]?=some (int i64 v)/\-1<=v/\v<=9:=by
 rcases (by omega:k=0\/k=1\/k=2) with rfl | rfl | rfl
 ·exact ⟨-1,rfl,by omega,by omega⟩
 ·exact ⟨9,rfl,by omega,by omega⟩
 ·exact ⟨n,rfl,by omega,by omega⟩
def z3x (L:Nat->Bool):Nat:=(if L 5=true then 1 else 0)
theorem z93 (L:Nat->Bool):z3x L<=1:=by unfold z3x;(repeat (first | omega | split))
theorem zeg {L:Nat->Bool} (h:L 5=false):z3x (upd L 5)=z3x L+1:=by simp [z3x,upd,h]
theorem z1w {L:Nat->Bool} {i:Nat} (h:i ≠ 5):z3x (upd L i)=z3x L:=by
 have k5:(5:Nat) ≠ i:=fun e=>(h) e.symm;simp [z3x,upd,k5]
structure zgj (r B n0:Nat) (w0:World) (F:World->Prop) (tb:Nat) (tc:Array Value) (ra:Option Addr) (rn rc:Nat)  (L:Nat->Bool) (w:World) (v33 v34 v35 v36 v37 v38 v39 v40 v41:Value):Prop where
 f0:L 0=true->v33=.pointer (some ⟨tb,3,none⟩)
 f1:L 1=true->v34=.slice ra rn rc
 f2:L 2=true->v35=int i64 (rn:Int)
 f3:L 3=true->L 9=false->PB n0 w 3 3 (fun arr=>arr=#[int i64 (-1),int i64 9,int i64 (rn:Int)]) v36
 f4:L 4=true->v37=.pointer (some ⟨r,0,none⟩)
 f5:L 5=true->PI 0 2 v38
 f6:L 6=true->L 9=false->PP n0 w 3 (fun arr k=>∃ v:Int,arr[k]?=some (int i64 v)/\-1<=v/\v<=9) v39
 f7:L 7=true->PI (-1) 9 v40
 f8:L 8=true->v41=.pointer (some ⟨tb,1,none⟩)
 rd:Rd w r (B+z3x L)
 bk:Bk r w0 w
 fr:F w
 tb0:L 9=false->w.heap[tb]?=some (.cells tc 26)
 tb1:L 9=true->∃ v:Int,(-1<=v/\v<=9)/\w.heap[tb]?=some (.cells (tc.setIfInBounds 1 (int i64 v)) 26)
def hdR (r B n0:Nat) (w0:World) (F:World->Prop) (tb:Nat) (tc:Array Value) (ra:Option Addr) (rn rc:Nat)  (mk:Value->Value->Value->Value->Value->Value->Value->Value->Value->Act) (L:Nat->Bool) (a:Act) (w:World):Prop:=∃ v33 v34 v35 v36 v37 v38 v39 v40 v41:Value,a=mk v33 v34 v35 v36 v37 v38 v39 v40 v41/\zgj r B n0 w0 F tb tc ra rn rc L w v33 v34 v35 v36 v37 v38 v39 v40 v41
def z3y (L:Nat->Bool):Nat:=(if L 5=true then 1 else 0)
theorem z94 (L:Nat->Bool):z3y L<=1:=by unfold z3y;(repeat (first | omega | split))
theorem zeh {L:Nat->Bool} (h:L 5=false):z3y (upd L 5)=z3y L+1:=by simp [z3y,upd,h]
theorem z1x {L:Nat->Bool} {i:Nat} (h:i ≠ 5):z3y (upd L i)=z3y L:=by
 have k5:(5:Nat) ≠ i:=fun e=>(h) e.symm;simp [z3y,upd,k5]
structure zgk (r B n0:Nat) (w0:World) (F:World->Prop) (tb:Nat) (tc:Array Value) (ra:Option Addr) (rn rc:Nat)  (L:Nat->Bool) (w:World) (v44 v45 v46 v47 v48 v49 v50 v51 v52:Value):Prop where
 f0:L 0=true->v44=.pointer (some ⟨tb,3,none⟩)
 f1:L 1=true->v45=.slice ra rn rc
 f2:L 2=true->v46=int i64 (rn:Int)
 f3:L 3=true->L 9=false->PB n0 w 3 3 (fun arr=>arr=#[int i64 (-1),int i64 9,int i64 (rn:Int)]) v47
 f4:L 4=true->v48=.pointer (some ⟨r,0,none⟩)
 f5:L 5=true->PI 0 2 v49
 f6:L 6=true->L 9=false->PP n0 w 3 (fun arr k=>∃ v:Int,arr[k]?=some (int i64 v)/\-1<=v/\v<=9) v50
 f7:L 7=true->PI (-1) 9 v51
 f8:L 8=true->v52=.pointer (some ⟨tb,2,none⟩)
 rd:Rd w r (B+z3y L)
 bk:Bk r w0 w
 fr:F w
 tb0:L 9=false->w.heap[tb]?=some (.cells tc 26)
 tb1:L 9=true->∃ v:Int,(-1<=v/\v<=9)/\w.heap[tb]?=some (.cells (tc.setIfInBounds 2 (int i64 v)) 26)
def ftR (r B n0:Nat) (w0:World) (F:World->Prop) (tb:Nat) (tc:Array Value) (ra:Option Addr) (rn rc:Nat)  (mk:Value->Value->Value->Value->Value->Value->Value->Value->Value->Act) (L:Nat->Bool) (a:Act) (w:World):Prop:=∃ v44 v45 v46 v47 v48 v49 v50 v51 v52:Value,a=mk v44 v45 v46 v47 v48 v49 v50 v51 v52/\zgk r B n0 w0 F tb tc ra rn rc L w v44 v45 v46 v47 v48 v49 v50 v51 v52
def z2t (L:Nat->Bool):Nat:=(if L 3=true then 1 else 0)+(if L 6=true then 1 else 0)
theorem z6p (L:Nat->Bool):z2t L<=2:=by unfold z2t;(repeat (first | omega | split))
theorem zei {L:Nat->Bool} (h:L 3=false):z2t (upd L 3)=z2t L+1:=by simp [z2t,upd,h];omega
theorem zej {L:Nat->Bool} (h:L 6=false):z2t (upd L 6)=z2t L+1:=by simp [z2t,upd,h]
theorem z0S {L:Nat->Bool} {i:Nat} (h:i ≠ 3/\i ≠ 6):z2t (upd L i)=z2t L:=by
 have k3:(3:Nat) ≠ i:=fun e=>(h.1) e.symm;have k6:(6:Nat) ≠ i:=fun e=>(h.2) e.symm;simp [z2t,upd,k3,k6]
structure zgl (r B n0:Nat) (w0:World) (F:World->Prop) (base:Nat) (U:Value) (nn:Nat) (xs:List Value) (tb:Nat) (tc:Array Value)  (L:Nat->Bool) (w:World) (v63 v64 v65 v66 v67 v68 v69 v70 v71 v72 v73 v74 v75:Value):Prop where
 f0:L 0=true->v63=.pointer (some ⟨tb,0,none⟩)
 f1:L 1=true->v64=U
 f2:L 2=true->v65=.pointer (some ⟨r,0,none⟩)
 f3:L 3=true->PI 0 3 v66
 f4:L 4=true->L 11=false->PB n0 w 3 4 (fun arr=>arr=#[int i64 (-1),int i64 0,int i64 61,int i64 101]) v67
 f5:L 5=true->v68=.pointer (some ⟨r,0,none⟩)
 f6:L 6=true->PI 0 3 v69
 f7:L 7=true->L 11=false->PP n0 w 3 (fun arr k=>∃ v:Int,arr[k]?=some (int i64 v)) v70
 f8:L 8=true->∃ v:Int,v71=int i64 v
 f9:L 9=true->∃ x y:Int,v72=.agg #[int i64 x,int i64 y]
 f10:L 10=true->L 11=false->PB n0 w 55 1 (fun arr=>∃ x y:Int,arr=#[int i64 x,int i64 y]) v73
 f12:L 12=true->v75=.pointer (some ⟨tb,0,none⟩)
 rd:Rd w r (B+z2t L)
 bk:Bk r w0 w
 fr:F w
 own:L 11=false->w.ownsRow base 55 2 U nn xs
 ownA:L 11=true->∃ nw,(∃ p,nw=z1t p)/\w.ownsRow base 55 2 v74 (nn+1) (xs ++ nw)
 tb0:L 13=false->w.heap[tb]?=some (.cells tc 26)
 tb1:L 13=true->w.heap[tb]?=some (.cells (tc.setIfInBounds (0) v74) 26)
def acR (r B n0:Nat) (w0:World) (F:World->Prop) (base:Nat) (U:Value) (nn:Nat) (xs:List Value) (tb:Nat) (tc:Array Value)  (mk:Value->Value->Value->Value->Value->Value->Value->Value->Value->Value->Value->Value->Value->Act) (L:Nat->Bool) (a:Act) (w:World):Prop:=∃ v63 v64 v65 v66 v67 v68 v69 v70 v71 v72 v73 v74 v75:Value,a=mk v63 v64 v65 v66 v67 v68 v69 v70 v71 v72 v73 v74 v75/\zgl r B n0 w0 F base U nn xs tb tc L w v63 v64 v65 v66 v67 v68 v69 v70 v71 v72 v73 v74 v75
def z3z (L:Nat->Bool):Nat:=(if L 10=true then 50 else 0)
theorem z95 (L:Nat->Bool):z3z L<=50:=by unfold z3z;(repeat (first | omega | split))
theorem zdf {L:Nat->Bool} (h:L 10=false):z3z (upd L 10)=z3z L+50:=by simp [z3z,upd,h]
theorem z0t {L:Nat->Bool} {i:Nat} (h:i ≠ 10):z3z (upd L i)=z3z L:=by
 have k10:(10:Nat) ≠ i:=fun e=>(h) e.symm;simp [z3z,upd,k10]
structure zgm (r B n0:Nat) (w0:World) (F:World->Prop) (base:Nat) (U:Value) (nn:Nat) (xs:List Value) (tb:Nat) (tc:Array Value) (t5 kk rn rc:Nat)  (L:Nat->Bool) (w:World) (v78 v79 v80 v81 v82 v83 v84 v85 v86 v87 v88 v89 v90 v91 v92:Value):Prop where
 f0:L 0=true->v78=.pointer (some ⟨t5,3,none⟩)
 f1:L 1=true->v79=.slice (some ⟨tb,0,none⟩) rn rc
 f2:L 2=true->v80=int i64 (kk:Int)
 f3:L 3=true->v81=.pointer (some ⟨t5,3,none⟩)
 f4:L 4=true->v82=.slice (some ⟨tb,0,none⟩) rn rc
 f5:L 5=true->v83=int i64 (kk:Int)
 f6:L 6=true->v84=.pointer (some ⟨tb,kk * 2,none⟩)
 f7:L 7=true->v85=.pointer (some ⟨tb,kk * 2,none⟩)
 f8:L 8=true->v86=U
 f9:L 9=true->v87=.pointer (some ⟨r,0,none⟩)
 f10:L 10=true->∃ x:C,v88=.agg #[.string x.s,int i64 x.c,int i64 x.r,int i64 x.a1,int i64 x.b1,int i64 x.a2,int i64 x.b2,int i64 x.a3,int i64 x.b3,int i64 x.a4,int i64 x.b4]/\Cx x
 f11:L 11=true->L 12=false->PB n0 w 36 1 (fun arr=>∃ x:C,arr=(z01 x).toArray/\Cx x) v89
 f13:L 13=true->v91=.pointer (some ⟨tb,kk * 2,none⟩)
 f14:L 14=true->v92=.pointer (some ⟨tb,kk * 2,none⟩)
 rd:Rd w r (B+z3z L)
 bk:Bk r w0 w
 fr:F w
 own:L 12=false->w.ownsRow base 36 11 U nn xs
 ownA:L 12=true->∃ nw,(∃ x,nw=z01 x/\Cx x)/\w.ownsRow base 36 11 v90 (nn+1) (xs ++ nw)
 tb0:L 15=false->w.heap[tb]?=some (.cells tc 32)
 tb1:L 15=true->w.heap[tb]?=some (.cells (tc.setIfInBounds (kk * 2) v90) 32)
def crR (r B n0:Nat) (w0:World) (F:World->Prop) (base:Nat) (U:Value) (nn:Nat) (xs:List Value) (tb:Nat) (tc:Array Value) (t5 kk rn rc:Nat)  (mk:Value->Value->Value->Value->Value->Value->Value->Value->Value->Value->Value->Value->Value->Value->Value->Act) (L:Nat->Bool) (a:Act) (w:World):Prop:=∃ v78 v79 v80 v81 v82 v83 v84 v85 v86 v87 v88 v89 v90 v91 v92:Value,a=mk v78 v79 v80 v81 v82 v83 v84 v85 v86 v87 v88 v89 v90 v91 v92/\zgm r B n0 w0 F base U nn xs tb tc t5 kk rn rc L w v78 v79 v80 v81 v82 v83 v84 v85 v86 v87 v88 v89 v90 v91 v92
def z2v (r B:Nat) (w:World) (e:Ending) (w':World):Prop :=
 ∃ (ac ar:Option Addr) (cc cr:Nat) (t:T),e=.returned (.agg #[.slice ac t.cols.length cc,int i64 t.head,int i64 t.foot,.slice ar t.rows.length cr,int i64 t.gap])/\z0b t/\zY w' w.heap.size (.slice ac t.cols.length cc) t.cols/\zJ w' w.heap.size (.slice ar t.rows.length cr) t.rows/\Rd w' r (B+3000)/\Bk r w w'
theorem z34 {w:World} {base g:Nat} {cur:Array Value} {vc vr:Value} {ps:List (Int × Int)} {ur:List (Value × R)} (h1:zO w base vc ps) (h2:w.ownsRow base 32 2 vr ur.length (ur.flatMap zG)) (h3:∀ p ∈ ur,z0a w base p.1 p.2.cells) (hg:w.heap[g]?=some (.cells cur 26)) (y0 y1 y2 y3 y4:Value) :
  zO (st5 w g y0 y1 y2 y3 y4) base vc ps/\(st5 w g y0 y1 y2 y3 y4).ownsRow base 32 2 vr ur.length (ur.flatMap zG)/\∀ p ∈ ur,z0a (st5 w g y0 y1 y2 y3 y4) base p.1 p.2.cells:=by
 have ho:Off base (some g) none w (st5 w g y0 y1 y2 y3 y4):=Off.ofBk (z1U w g y0 y1 y2 y3 y4);have hnn:∀ x:Value,x.ownBlock=none\/x.ownBlock ≠ none:=fun x=>by cases x.ownBlock <;> simp
 exact ⟨z05 h1 ho (Nat.le_refl _) (zl h1 hg (by decide)) (hnn _),z05 h2 ho (Nat.le_refl _) (zl h2 hg (by decide)) (hnn _),fun p hp=>z05 (h3 p hp) ho (Nat.le_refl _) (zl (h3 p hp) hg (by decide)) (hnn _)⟩
theorem z2v.mk' {r B:Nat} {w w':World} {ac ar:Option Addr} {cc cr:Nat} {ps:List (Int × Int)} {ur:List (Value × R)} {hd ft gp:Int} (hD:z0b ⟨ps,hd,ft,ur.map (·.2),gp⟩) (h1:zY w' w.heap.size (.slice ac ps.length cc) ps) (h2:zJ w' w.heap.size (.slice ar ur.length cr) (ur.map (·.2)))
  (h3:Rd w' r (B+3000)) (h4:Bk r w w'):z2v r B w (.returned (.agg #[.slice ac ps.length cc,int i64 hd,int i64 ft,.slice ar ur.length cr,int i64 gp])) w' :=
 ⟨ac,ar,cc,cr,⟨ps,hd,ft,ur.map (·.2),gp⟩,by simp,hD,h1,by simpa using h2,h3,h4⟩
def FA (w:World) (vc vr:Value) (ps:List (Int × Int)) (ur:List (Value × R)) (W:World):Prop:=zO W w.heap.size vc ps/\zD W w.heap.size vr ur/\W.heap[w.heap.size]?=some (.cells #[.slice none 0 0,int i64 0,int i64 0,.slice none 0 0,int i64 0] 26)
def FB (w:World) (vr:Value) (ur:List (Value × R)) (W:World):Prop:=zD W w.heap.size vr ur/\W.heap[w.heap.size]?=some (.cells #[.slice none 0 0,int i64 0,int i64 0,.slice none 0 0,int i64 0] 26)
theorem nn' (x:Value):x.ownBlock=none\/x.ownBlock ≠ none:=by cases x.ownBlock <;> simp
theorem FA.stays {w:World} {tb:Nat} {vc vr:Value} {ps:List (Int × Int)} {ur:List (Value × R)} (hz:w.heap.size < tb) (h1:vc.ownBlock=none\/vc.ownBlock ≠ some tb) (h2:vr.ownBlock=none\/vr.ownBlock ≠ some tb) (h3:∀ p ∈ ur,p.1.ownBlock=none\/p.1.ownBlock ≠ some tb):z5x w.heap.size tb (.slice none 0 0) (FA w vc vr ps ur) :=
 fun _ _ ⟨a1,a2,a3⟩ ho=>⟨z05 a1 ho (Nat.le_refl _) h1 (nn' _),a2.off ho (Nat.le_refl _) h2 (nn' _) (fun p hp=>⟨h3 p hp,nn' _⟩),(ho.block _ (Nat.le_refl _) (bL a3) (by simp;omega) (by simp [Value.ownBlock])).trans a3⟩
theorem FB.stays {w:World} {tb:Nat} {vc vr:Value} {ur:List (Value × R)} (hz:w.heap.size < tb) (h2:vr.ownBlock=none\/vr.ownBlock ≠ some tb) (h3:∀ p ∈ ur,p.1.ownBlock=none\/p.1.ownBlock ≠ some tb) (h4:vr.ownBlock=none\/vr.ownBlock ≠ vc.ownBlock) (h5:∀ p ∈ ur,p.1.ownBlock=none\/p.1.ownBlock ≠ vc.ownBlock) (h6:some w.heap.size ≠ vc.ownBlock):z5x w.heap.size tb vc (FB w vr ur) :=
 fun _ _ ⟨a2,a3⟩ ho=>⟨a2.off ho (Nat.le_refl _) h2 h4 (fun p hp=>⟨h3 p hp,h5 p hp⟩),(ho.block _ (Nat.le_refl _) (bL a3) (by simp;omega) h6).trans a3⟩
def FC (w:World) (t5:Nat) (tc:Array Value) (vc:Value) (ps:List (Int × Int)) (ur:List (Value × R)) (kk:Nat) (W:World):Prop :=
 W.heap[t5]?=some (.cells tc 26)/\zO W w.heap.size vc ps/\W.heap[w.heap.size]?=some (.cells #[.slice none 0 0,int i64 0,int i64 0,.slice none 0 0,int i64 0] 26)/\∀ i (hi:i < ur.length),i ≠ kk->z0a W w.heap.size ur[i].1 ur[i].2.cells
theorem FC.stays {w:World} {t5 rb:Nat} {tc:Array Value} {vc u:Value} {ps:List (Int × Int)} {ur:List (Value × R)} {kk:Nat} (ht:w.heap.size<=t5) (h1:some t5 ≠ some rb) (h2:some t5 ≠ u.ownBlock) (h3:vc.ownBlock=none\/vc.ownBlock ≠ some rb) (h4:vc.ownBlock=none\/vc.ownBlock ≠ u.ownBlock)
  (h5:some w.heap.size ≠ some rb) (h6:some w.heap.size ≠ u.ownBlock) (h7:∀ i (hi:i < ur.length),i ≠ kk->zg7 ur[i].1 (some rb) u.ownBlock):z5x w.heap.size rb u (FC w t5 tc vc ps ur kk) :=
 fun _ _ ⟨a1,a2,a3,a4⟩ ho=>⟨(ho.block _ ht (bL a1) h1 h2).trans a1,z05 a2 ho (Nat.le_refl _) h3 h4,(ho.block _ (Nat.le_refl _) (bL a3) h5 h6).trans a3,fun i hi hk=>z05 (a4 i hi hk) ho (Nat.le_refl _) (h7 i hi hk).1 (h7 i hi hk).2⟩
theorem z96 (v:Value) (cs:List C):∀ (l:List (Value × R)) (k:Nat) (hk:k < l.length),(l.set k (v,⟨cs,l[k].2.whole⟩)).flatMap zG=(l.flatMap zG).set (k * 2) v
 | a :: t,0,_=>by simp [zG]
 | a :: t,k+1,hk=>by
  have ih:=z96 v cs t k (by simpa using hk);have e:(k+1) * 2=k * 2+2:=(by omega);simp only [List.set_cons_succ,List.flatMap_cons,List.getElem_cons_succ];rw [ih,e];simp [zG]
theorem zD.other {w:World} {base:Nat} {v:Value} {ur:List (Value × R)} (h:zD w base v ur) {i k:Nat} (hi:i < ur.length) (hk:k < ur.length) (hne:i ≠ k):ur[i].1.ownBlock=none\/ur[i].1.ownBlock ≠ ur[k].1.ownBlock:=by
 have hp:=List.pairwise_iff_getElem.1 h.apart
 rcases Nat.lt_or_gt_of_ne hne with h1 | h1
 ·exact hp i k hi hk h1
 ·rcases hp k i hk hi h1 with h2 | h2
  ·rw [h2]
   cases ur[i].1.ownBlock <;> simp
  ·exact .inr (fun e=>h2 e.symm)
theorem zdg {w:World} {base rb cap kk:Nat} {cur:Array Value} {ur:List (Value × R)} {v:Value} {x:C} (hk:kk < ur.length) (hb:base<=rb) (hn:ur.length<=cap) (hcm:cap<=maxLen) (hc:cur.size=cap * 2) (ht:cur.toList.take (ur.length * 2)=ur.flatMap zG)
  (hT:w.heap[rb]?=some (.cells (cur.setIfInBounds (kk * 2) v) 32)) (hO:z0a w base v (ur[kk].2.cells ++ [x])) (hothers:∀ i (hi:i < ur.length),i ≠ kk->z0a w base ur[i].1 ur[i].2.cells) :
  w.ownsRow base 32 2 (.slice (some ⟨rb,0,none⟩) (ur.set kk (v,⟨ur[kk].2.cells ++ [x],ur[kk].2.whole⟩)).length cap) (ur.set kk (v,⟨ur[kk].2.cells ++ [x],ur[kk].2.whole⟩)).length ((ur.set kk (v,⟨ur[kk].2.cells ++ [x],ur[kk].2.whole⟩)).flatMap zG)/\∀ p ∈ ur.set kk (v,⟨ur[kk].2.cells ++ [x],ur[kk].2.whole⟩),z0a w base p.1 p.2.cells:=by
 refine ⟨⟨z11 zG 2 (fun _=>rfl) _,.inr ⟨rb,cap,_,rfl,hb,hT,by rw [List.length_set];exact hn,hcm,by rw [Array.size_setIfInBounds];exact hc,?_⟩⟩,fun p hp=>?_⟩
 ·rw [z96,List.length_set,Array.toList_setIfInBounds,List.take_set,ht]
 ·obtain ⟨i,hi,rfl⟩:=List.mem_iff_getElem.1 hp;rw [List.length_set] at hi;by_cases h:kk=i
  ·subst h;rw [List.getElem_set_self];exact hO
  ·rw [List.getElem_set_ne h];exact hothers i hi (fun e=>h e.symm)
theorem zc4 {kk:Nat} {ur:List (Value × R)} {v:Value} {x:C} (hk:kk < ur.length) (hs:∀ p ∈ ur,p.2.cells.length<=4/\∀ x ∈ p.2.cells,Cx x) (hx:Cx x) :
  (∀ p ∈ ur.set kk (v,⟨ur[kk].2.cells ++ [x],ur[kk].2.whole⟩),∀ y ∈ p.2.cells,Cx y)/\∃ k,∀ i,(((ur.set kk (v,⟨ur[kk].2.cells ++ [x],ur[kk].2.whole⟩)).map (·.2)).getD i dR).cells.length<=if i=k then 5 else 4:=by
 constructor
 ·intro p hp y hy;obtain ⟨i,hi,rfl⟩:=List.mem_iff_getElem.1 hp;rw [List.length_set] at hi;by_cases h:kk=i
  ·subst h;rw [List.getElem_set_self] at hy
   rcases List.mem_append.1 hy with hy | hy
   ·exact (hs _ (List.getElem_mem hk)).2 y hy
   ·simp at hy;subst hy;exact hx
  ·rw [List.getElem_set_ne h] at hy;exact (hs _ (List.getElem_mem hi)).2 y hy
 ·refine ⟨kk,fun i=>?_⟩;by_cases hi:i < ur.length
  ·rw [zI dR (by simpa using hi),List.getElem_map];by_cases h:kk=i
   ·subst h;rw [List.getElem_set_self,if_pos rfl];have:=(hs _ (List.getElem_mem hk)).1;simp;omega
   ·rw [List.getElem_set_ne h,if_neg (fun e=>h e.symm)];exact (hs _ (List.getElem_mem hi)).1
  ·simp [List.getD,hi,dR]
end Go.Proofs.YtggmjiddadjilalGreat
