/-
  PROVED HERE: small facts on tables of the call's own, for the drawing of any table.
-/
import Derived.Test.YtggmjiddadjilamB16
set_option maxRecDepth 1000000
set_option maxHeartbeats 40000000
namespace Go.Proofs.Ytggmjiddadjilam
open Go.RowKit
def z19 (r B:Nat) (w:World) (e:Ending) (w':World):Prop :=
 ∃ (ac ar:Option Addr) (cc cr:Nat) (t:T),e=.returned (.agg #[.slice ac t.cols.length cc,.int .i64 t.head,.int .i64 t.foot,.slice ar t.rows.length cr,.int .i64 t.gap])∧z0o t∧zY w' w.heap.size (.slice ac t.cols.length cc) t.cols∧zD w' w.heap.size (.slice ar t.rows.length cr) t.rows∧Rd w' r (B+3000)∧Bk r w w'
theorem z1r {w:World} {base g:Nat} {cur:Array Value} {vc vr:Value} {ps:List (Int × Int)} {ur:List (Value × R)} (h1:zF w base vc ps) (h2:w.ownsRow base 33 2 vr ur.length (ur.flatMap zS)) (h3:∀ p ∈ ur,z0p w base p.1 p.2.cells) (hg:w.heap[g]?=some (.cells cur 26)) (y0 y1 y2 y3 y4:Value) :
  zF (st5 w g y0 y1 y2 y3 y4) base vc ps∧(st5 w g y0 y1 y2 y3 y4).ownsRow base 33 2 vr ur.length (ur.flatMap zS)∧∀ p ∈ ur,z0p (st5 w g y0 y1 y2 y3 y4) base p.1 p.2.cells:=by
 have ho:Off base (some g) none w (st5 w g y0 y1 y2 y3 y4):=Off.ofBk (z0Z w g y0 y1 y2 y3 y4);have hnn:∀ x:Value,x.ownBlock=none∨x.ownBlock ≠ none:=fun x=>by cases x.ownBlock <;> simp
 exact ⟨z00 h1 ho (Nat.le_refl _) (zh h1 hg (by decide)) (hnn _),z00 h2 ho (Nat.le_refl _) (zh h2 hg (by decide)) (hnn _),fun p hp=>z00 (h3 p hp) ho (Nat.le_refl _) (zh (h3 p hp) hg (by decide)) (hnn _)⟩
theorem z19.mk' {r B:Nat} {w w':World} {ac ar:Option Addr} {cc cr:Nat} {ps:List (Int × Int)} {ur:List (Value × R)} {hd ft gp:Int} (hD:z0o ⟨ps,hd,ft,ur.map (·.2),gp⟩) (h1:zY w' w.heap.size (.slice ac ps.length cc) ps) (h2:zD w' w.heap.size (.slice ar ur.length cr) (ur.map (·.2)))
  (h3:Rd w' r (B+3000)) (h4:Bk r w w'):z19 r B w (.returned (.agg #[.slice ac ps.length cc,.int .i64 hd,.int .i64 ft,.slice ar ur.length cr,.int .i64 gp])) w' :=
 ⟨ac,ar,cc,cr,⟨ps,hd,ft,ur.map (·.2),gp⟩,by simp,hD,h1,by simpa using h2,h3,h4⟩
def FA (w:World) (vc vr:Value) (ps:List (Int × Int)) (ur:List (Value × R)) (W:World):Prop:=zF W w.heap.size vc ps∧zC W w.heap.size vr ur∧W.heap[w.heap.size]?=some (.cells #[.slice none 0 0,.int .i64 0,.int .i64 0,.slice none 0 0,.int .i64 0] 26)
def FB (w:World) (vr:Value) (ur:List (Value × R)) (W:World):Prop:=zC W w.heap.size vr ur∧W.heap[w.heap.size]?=some (.cells #[.slice none 0 0,.int .i64 0,.int .i64 0,.slice none 0 0,.int .i64 0] 26)
theorem nn' (x:Value):x.ownBlock=none∨x.ownBlock ≠ none:=by cases x.ownBlock <;> simp
theorem FA.stays {w:World} {tb:Nat} {vc vr:Value} {ps:List (Int × Int)} {ur:List (Value × R)} (hz:w.heap.size < tb) (h1:vc.ownBlock=none∨vc.ownBlock ≠ some tb) (h2:vr.ownBlock=none∨vr.ownBlock ≠ some tb) (h3:∀ p ∈ ur,p.1.ownBlock=none∨p.1.ownBlock ≠ some tb):z2s w.heap.size tb (.slice none 0 0) (FA w vc vr ps ur) :=
 fun _ _ ⟨a1,a2,a3⟩ ho=>⟨z00 a1 ho (Nat.le_refl _) h1 (nn' _),a2.off ho (Nat.le_refl _) h2 (nn' _) (fun p hp=>⟨h3 p hp,nn' _⟩),(ho.block _ (Nat.le_refl _) (bL a3) (by simp;omega) (by simp [Value.ownBlock])).trans a3⟩
theorem FB.stays {w:World} {tb:Nat} {vc vr:Value} {ur:List (Value × R)} (hz:w.heap.size < tb) (h2:vr.ownBlock=none∨vr.ownBlock ≠ some tb) (h3:∀ p ∈ ur,p.1.ownBlock=none∨p.1.ownBlock ≠ some tb) (h4:vr.ownBlock=none∨vr.ownBlock ≠ vc.ownBlock) (h5:∀ p ∈ ur,p.1.ownBlock=none∨p.1.ownBlock ≠ vc.ownBlock) (h6:some w.heap.size ≠ vc.ownBlock):z2s w.heap.size tb vc (FB w vr ur) :=
 fun _ _ ⟨a2,a3⟩ ho=>⟨a2.off ho (Nat.le_refl _) h2 h4 (fun p hp=>⟨h3 p hp,h5 p hp⟩),(ho.block _ (Nat.le_refl _) (bL a3) (by simp;omega) h6).trans a3⟩
def FC (w:World) (t5:Nat) (tc:Array Value) (vc:Value) (ps:List (Int × Int)) (ur:List (Value × R)) (kk:Nat) (W:World):Prop :=
 W.heap[t5]?=some (.cells tc 26)∧zF W w.heap.size vc ps∧W.heap[w.heap.size]?=some (.cells #[.slice none 0 0,.int .i64 0,.int .i64 0,.slice none 0 0,.int .i64 0] 26)∧∀ i (hi:i < ur.length),i ≠ kk→z0p W w.heap.size ur[i].1 ur[i].2.cells
theorem FC.stays {w:World} {t5 rb:Nat} {tc:Array Value} {vc u:Value} {ps:List (Int × Int)} {ur:List (Value × R)} {kk:Nat} (ht:w.heap.size≤t5) (h1:some t5 ≠ some rb) (h2:some t5 ≠ u.ownBlock) (h3:vc.ownBlock=none∨vc.ownBlock ≠ some rb) (h4:vc.ownBlock=none∨vc.ownBlock ≠ u.ownBlock)
  (h5:some w.heap.size ≠ some rb) (h6:some w.heap.size ≠ u.ownBlock) (h7:∀ i (hi:i < ur.length),i ≠ kk→z7g ur[i].1 (some rb) u.ownBlock):z2s w.heap.size rb u (FC w t5 tc vc ps ur kk) :=
 fun _ _ ⟨a1,a2,a3,a4⟩ ho=>⟨(ho.block _ ht (bL a1) h1 h2).trans a1,z00 a2 ho (Nat.le_refl _) h3 h4,(ho.block _ (Nat.le_refl _) (bL a3) h5 h6).trans a3,fun i hi hk=>z00 (a4 i hi hk) ho (Nat.le_refl _) (h7 i hi hk).1 (h7 i hi hk).2⟩
theorem z3X (v:Value) (cs:List C):∀ (l:List (Value × R)) (k:Nat) (hk:k < l.length),(l.set k (v,⟨cs,l[k].2.whole⟩)).flatMap zS=(l.flatMap zS).set (k * 2) v
 | a :: t,0,_=>by simp [zS]
 | a :: t,k+1,hk=>by
  have ih:=z3X v cs t k (by simpa using hk);have e:(k+1) * 2=k * 2+2:=(by omega);simp only [List.set_cons_succ,List.flatMap_cons,List.getElem_cons_succ];rw [ih,e];simp [zS]
theorem zC.other {w:World} {base:Nat} {v:Value} {ur:List (Value × R)} (h:zC w base v ur) {i k:Nat} (hi:i < ur.length) (hk:k < ur.length) (hne:i ≠ k):ur[i].1.ownBlock=none∨ur[i].1.ownBlock ≠ ur[k].1.ownBlock:=by
 have hp:=List.pairwise_iff_getElem.1 h.apart
 rcases Nat.lt_or_gt_of_ne hne with h1 | h1
 ·exact hp i k hi hk h1
 ·rcases hp k i hk hi h1 with h2 | h2
  ·rw [h2]
   cases ur[i].1.ownBlock <;> simp
  ·exact .inr (fun e=>h2 e.symm)
theorem z64 {w:World} {base rb cap kk:Nat} {cur:Array Value} {ur:List (Value × R)} {v:Value} {x:C} (hk:kk < ur.length) (hb:base≤rb) (hn:ur.length≤cap) (hcm:cap≤maxLen) (hc:cur.size=cap * 2) (ht:cur.toList.take (ur.length * 2)=ur.flatMap zS)
  (hT:w.heap[rb]?=some (.cells (cur.setIfInBounds (kk * 2) v) 33)) (hO:z0p w base v (ur[kk].2.cells ++ [x])) (hothers:∀ i (hi:i < ur.length),i ≠ kk→z0p w base ur[i].1 ur[i].2.cells) :
  w.ownsRow base 33 2 (.slice (some ⟨rb,0,none⟩) (ur.set kk (v,⟨ur[kk].2.cells ++ [x],ur[kk].2.whole⟩)).length cap) (ur.set kk (v,⟨ur[kk].2.cells ++ [x],ur[kk].2.whole⟩)).length ((ur.set kk (v,⟨ur[kk].2.cells ++ [x],ur[kk].2.whole⟩)).flatMap zS)∧∀ p ∈ ur.set kk (v,⟨ur[kk].2.cells ++ [x],ur[kk].2.whole⟩),z0p w base p.1 p.2.cells:=by
 refine ⟨⟨z2p zS 2 (fun _=>rfl) _,.inr ⟨rb,cap,_,rfl,hb,hT,by rw [List.length_set];exact hn,hcm,by rw [Array.size_setIfInBounds];exact hc,?_⟩⟩,fun p hp=>?_⟩
 ·rw [z3X,List.length_set,Array.toList_setIfInBounds,List.take_set,ht]
 ·obtain ⟨i,hi,rfl⟩:=List.mem_iff_getElem.1 hp;rw [List.length_set] at hi;by_cases h:kk=i
  ·subst h;rw [List.getElem_set_self];exact hO
  ·rw [List.getElem_set_ne h];exact hothers i hi (fun e=>h e.symm)
theorem z5m {kk:Nat} {ur:List (Value × R)} {v:Value} {x:C} (hk:kk < ur.length) (hs:∀ p ∈ ur,p.2.cells.length≤4∧∀ x ∈ p.2.cells,Cx x) (hx:Cx x) :
  (∀ p ∈ ur.set kk (v,⟨ur[kk].2.cells ++ [x],ur[kk].2.whole⟩),∀ y ∈ p.2.cells,Cx y)∧∃ k,∀ i,(((ur.set kk (v,⟨ur[kk].2.cells ++ [x],ur[kk].2.whole⟩)).map (·.2)).getD i dR).cells.length≤if i=k then 5 else 4:=by
 constructor
 ·intro p hp y hy;obtain ⟨i,hi,rfl⟩:=List.mem_iff_getElem.1 hp;rw [List.length_set] at hi;by_cases h:kk=i
  ·subst h;rw [List.getElem_set_self] at hy
   rcases List.mem_append.1 hy with hy | hy
   ·exact (hs _ (List.getElem_mem hk)).2 y hy
   ·simp at hy;subst hy;exact hx
  ·rw [List.getElem_set_ne h] at hy;exact (hs _ (List.getElem_mem hi)).2 y hy
 ·refine ⟨kk,fun i=>?_⟩;by_cases hi:i < ur.length
  ·rw [z0Q dR (by simpa using hi),List.getElem_map];by_cases h:kk=i
   ·subst h;rw [List.getElem_set_self,if_pos rfl];have:=(hs _ (List.getElem_mem hk)).1;simp;omega
   ·rw [List.getElem_set_ne h,if_neg (fun e=>h e.symm)];exact (hs _ (List.getElem_mem hi)).1
  ·simp [List.getD,hi,dR]
end Go.Proofs.Ytggmjiddadjilam
