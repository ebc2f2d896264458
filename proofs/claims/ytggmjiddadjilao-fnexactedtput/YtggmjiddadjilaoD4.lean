/-
  PROVED HERE: an owned table in memory, as lists; how it stays. Also: what the laws' own toTblTable answers is the same table, in memory of the call's own, each slice in a block of its own; nothing that was in memory is turned.
-/
import Derived.Test.YtggmjiddadjilaoD3
import Derived.Test.YtggmjiddadjilaoD2
namespace Go.Proofs.Ytggmjiddadjilao
open Go.RowKit

theorem row_since {w w':World} {base:Nat} {e:TypeId} {sz:Nat} {v:Value} {m:Nat} {xs:List Value} (h:w.ownsRow base e sz v m xs) (k:Since base w w'):w'.ownsRow base e sz v m xs :=
 ⟨h.1,h.2.elim Or.inl (fun ⟨g,cap,cur,hv,hg,hc,q⟩=>Or.inr ⟨g,cap,cur,hv,hg,(k.block g hg (Array.getElem?_eq_some_iff.1 hc).1).trans hc,q⟩)⟩
theorem OwnR.since {w w':World} {base:Nat} {v:Value} {ur:List (Value × R)} (h:OwnR w base v ur) (k:Since base w w'):OwnR w' base v ur:=⟨row_since h.own k,fun p hp=>row_since (h.cells p hp) k,h.apart⟩
/-- a table in memory of one's own -/
def OwnT (w:World) (base:Nat) (vc vr:Value) (t:T):Prop:=∃ ur:List (Value × R),ur.map (·.2)=t.rows∧OwnCol w base vc t.cols∧OwnR w base vr ur
theorem OwnT.since {w w':World} {base:Nat} {vc vr:Value} {t:T} (h:OwnT w base vc vr t) (k:Since base w w'):OwnT w' base vc vr t:=by
 obtain ⟨ur,e,a,b⟩:=h
 exact ⟨ur,e,row_since a k,b.since k⟩
theorem OwnT.base {w:World} {base base':Nat} {vc vr:Value} {t:T} (h:OwnT w base vc vr t) (hb:base'≤base):OwnT w base' vc vr t:=by
 obtain ⟨ur,e,a,b⟩:=h
 exact ⟨ur,e,row_base a hb,b.base hb⟩
theorem flat_arr {α:Type} (f:α→List Value) (sz:Nat) (hf:∀ x,(f x).length=sz) (l:List α) (arr:Array Value) (hs:arr.size=l.length * sz) (h:∀ i,(hi:i < l.length)→∀ j,j < sz→arr[i * sz+j]?=(f l[i])[j]?):arr.toList.take (l.length * sz)=l.flatMap f:=by
 rw [List.take_of_length_le (by rw [Array.length_toList,hs];exact Nat.le_refl _)]
 apply List.ext_getElem?
 intro k
 by_cases hk:k < l.length * sz
 ·have hz:0 < sz:=by
   rcases Nat.eq_zero_or_pos sz with h0 | h0
   ·rw [h0] at hk;omega
   ·exact h0
  have h1:k / sz < l.length:=(Nat.div_lt_iff_lt_mul hz).2 hk
  have h2:k % sz < sz:=Nat.mod_lt _ hz
  have e:k=k / sz * sz+k % sz:=by rw [Nat.mul_comm];exact (Nat.div_add_mod k sz).symm
  have a:=h (k / sz) h1 (k % sz) h2
  have b:=flat_get f sz hf l (k / sz) h1 (k % sz) h2
  rw [← e] at a b
  rw [Array.getElem?_toList,a,b]
 ·rw [List.getElem?_eq_none (by rw [Array.length_toList,hs];omega),List.getElem?_eq_none (by rw [flat_len f sz hf];omega)]
theorem own_arr {arr:Array Value} {cs:List C} (hs:arr.size=cs.length * 11) (h:∀ i,i < cs.length→CellArr arr (i * 11) (cs.getD i dC)):arr.toList.take (cs.length * 11)=cs.flatMap cellVs:=by
 refine flat_arr cellVs 11 (fun _=>rfl) cs arr hs (fun i hi j hj=>?_)
 have e:=h i hi
 rw [getD_get dC hi] at e
 obtain ⟨h0,h1,h2,h3,h4,h5,h6,h7,h8,h9,h10⟩:=e
 match j,hj with
 | 0,_=>exact h0
 | 1,_=>exact h1
 | 2,_=>exact h2
 | 3,_=>exact h3
 | 4,_=>exact h4
 | 5,_=>exact h5
 | 6,_=>exact h6
 | 7,_=>exact h7
 | 8,_=>exact h8
 | 9,_=>exact h9
 | 10,_=>exact h10
theorem own_cols {arr:Array Value} {ps:List (Int × Int)} (hs:arr.size=ps.length * 2) (h:ColArr arr ps ps.length):arr.toList.take (ps.length * 2)=ps.flatMap colVs:=by
 refine flat_arr colVs 2 (fun _=>rfl) ps arr hs (fun i hi j hj=>?_)
 have e:=h i hi
 rw [getD_get (0,0) hi] at e
 match j,hj with
 | 0,_=>exact e.1
 | 1,_=>exact e.2
/-- rows in an array, the first k of them, each with cells of its own -/
def ArrO (w:World) (z:Nat) (arr:Array Value) (rs:List R) (k:Nat):Prop :=
 ∃ us:List Value,us.length=k∧(∀ i,(hi:i < us.length)→arr[i * 2]?=some us[i]∧arr[i * 2+1]?=some (.bool (rs.getD i dR).whole)∧OwnC w z us[i] (rs.getD i dR).cells)∧us.Pairwise fun p q=>p.ownBlock=none∨p.ownBlock ≠ q.ownBlock
theorem ArrO.zero (w:World) (z:Nat) (arr:Array Value) (rs:List R):ArrO w z arr rs 0:=⟨[],rfl,fun _ hi=>absurd hi (Nat.not_lt_zero _),.nil⟩
theorem ArrO.next {w w':World} {z:Nat} {arr:Array Value} {rs:List R} {k:Nat} (h:ArrO w z arr rs k) (hs:arr.size=rs.length * 2) (hk:k < rs.length) (hz:z≤w.heap.size) (hw:Since z w w') {u:Value} (hu:OwnC w' w.heap.size u (rs.getD k dR).cells) :
  ArrO w' z ((arr.setIfInBounds (k * 2) u).setIfInBounds (k * 2+1) (.bool (rs.getD k dR).whole)) rs (k+1):=by
 obtain ⟨h1,h2,h3⟩:=two_next hs hk u (.bool (rs.getD k dR).whole)
 obtain ⟨us,hl,hg,hp⟩:=h
 refine ⟨us ++ [u],by simp [hl],fun i hi=>?_,?_⟩
 ·rw [List.length_append,List.length_singleton,hl] at hi
  rcases Nat.lt_or_eq_of_le (Nat.lt_succ_iff.1 hi) with hlt | rfl
  ·obtain ⟨e1,e2,e3⟩:=hg i (by omega)
   rw [List.getElem_append_left (by omega)]
   exact ⟨(h1 _ (by omega)).trans e1,(h1 _ (by omega)).trans e2,row_since e3 hw⟩
  ·have e:(us ++ [u])[i]'(by simp [hl])=u:=by
    rw [List.getElem_append_right (by omega)]
    simp
   rw [e]
   exact ⟨h2,h3,row_base hu hz⟩
 ·rw [List.pairwise_append]
  refine ⟨hp,List.pairwise_singleton _ _,fun p hpm q hq=>?_⟩
  rw [List.mem_singleton] at hq
  subst hq
  obtain ⟨i,hi,rfl⟩:=List.mem_iff_getElem.1 hpm
  obtain ⟨_,_,e3⟩:=hg i hi
  cases hb:us[i].ownBlock with
  | none=>exact .inl rfl
  | some b =>
   refine .inr (fun he=>?_)
   have l1:=row_lt e3 hb
   have l2:=row_lt hu he.symm
   omega
theorem ArrO.all {w:World} {z:Nat} {arr:Array Value} {rs:List R} (h:ArrO w (z+1) arr rs rs.length) (hs:arr.size=rs.length * 2) (hg:w.heap[z]?=some (.cells arr 88)) (hm:rs.length≤maxLen) :
  ∃ ur:List (Value × R),ur.map (·.2)=rs∧OwnR w z (.slice (some ⟨z,0,none⟩) rs.length rs.length) ur:=by
 obtain ⟨us,hl,hgt,hp⟩:=h
 have hzl:(us.zip rs).length=rs.length:=by rw [List.length_zip,hl,Nat.min_self]
 refine ⟨us.zip rs,List.map_snd_zip (by omega),⟨?_,fun p hpm=>?_,?_⟩⟩
 ·refine ⟨flat_len rowVs 2 (fun _=>rfl) _,.inr ⟨z,rs.length,arr,by rw [hzl],Nat.le_refl _,hg,by rw [hzl];exact Nat.le_refl _,hm,hs,?_⟩⟩
  refine flat_arr rowVs 2 (fun _=>rfl) (us.zip rs) arr (by rw [hs,hzl]) (fun i hi j hj=>?_)
  rw [hzl] at hi
  obtain ⟨e1,e2,_⟩:=hgt i (by omega)
  rw [getD_get dR hi] at e2
  rw [List.getElem_zip]
  match j,hj with
  | 0,_=>exact e1
  | 1,_=>exact e2
 ·obtain ⟨i,hi,rfl⟩:=List.mem_iff_getElem.1 hpm
  rw [hzl] at hi
  obtain ⟨_,_,e3⟩:=hgt i (by omega)
  rw [getD_get dR hi] at e3
  rw [List.getElem_zip]
  exact row_base e3 (Nat.le_succ _)
 ·rw [List.pairwise_iff_getElem] at hp ⊢
  intro i j hi hj hij
  rw [List.getElem_zip,List.getElem_zip]
  exact hp i j (by omega) (by omega) hij
end Go.Proofs.Ytggmjiddadjilao
namespace Go.Proofs.Ytggmjiddadjilao
open Go.RowKit
set_option maxRecDepth 100000 in
set_option maxHeartbeats 1000000 in
theorem toTblCellS_own (v:Value) (cs:List C) (hn:cs.length≤1048576) (w:World) {z:Nat} (h:CellsAt w z v cs) :
  Calls Try.prog 103 #[v] w fun e w'=>∃ u,e=.returned u∧OwnC w' w.heap.size u cs∧Below w.heap.size w w':=by
 obtain ⟨a,cap,rfl,hlen⟩:=At.form h
 have hmk:=makeC cs.length hn
 have H:=Hid.intro h
 clear h
 go_enter Try.func103,Try.ntmps103
 go_wp2_with fail
 clear hmk
 go_loopw [4] (fun i W=>∃ (k:Nat) (arr:Array Value),k≤cs.length∧i=.int .i64 k∧Hid (W.heap[w.heap.size]?=some (.cells arr 62))∧arr.size=cs.length * 11∧Hid (∀ i,i < k→CellArr arr (i * 11) (cs.getD i dC))∧Hid (Below w.heap.size w W)∧w.heap.size < W.heap.size) (fun i _=>cs.length - (intOf i).toNat)
 case atStart=>exact ⟨0,newC cs.length,Nat.zero_le _,rfl,newestB _ _,newC_size _,fun i hi=>absurd hi (Nat.not_lt_zero _),k_alloc (Below.refl _ _) _,by simp⟩
 case round =>
  obtain ⟨k,arr,hk,rfl,HBk,hsz,HA,HB,hw⟩:=hrel
  by_cases hlt:k < cs.length
  ·obtain ⟨b,off,cap',e',hc1,hc2,hbl,hx,hs⟩:=At.get (H.out.kept HB.out) hlt
   simp only [Value.slice.injEq,true_and] at e'
   obtain ⟨rfl,rfl⟩:=e'
   have HN:=Hid.intro (put11_next hsz hlt HA.out)
   generalize cs.getD k dC=x at hx hs HN
   obtain ⟨x0,x1,x2,x3,x4,x5,x6,x7,x8,x9,x10⟩:=hx
   unfold maxLen at hc2
   go_wp2_with fail
   refine (toTblCell_any _ _ _ _ _ _ _ _ _ _ _ _).mono ?_
   rintro e w1 ⟨rfl,hb1⟩
   have B1:=(hb1.block w.heap.size hw).trans HBk.out
   have hw1:w.heap.size < w1.heap.size:=Nat.lt_of_lt_of_le hw hb1.size
   obtain ⟨y0,q0⟩:=someB (p:=k * 11) B1 (by omega)
   obtain ⟨y1,q1⟩:=someB (p:=k * 11+1) B1 (by omega)
   obtain ⟨y2,q2⟩:=someB (p:=k * 11+2) B1 (by omega)
   obtain ⟨y3,q3⟩:=someB (p:=k * 11+3) B1 (by omega)
   obtain ⟨y4,q4⟩:=someB (p:=k * 11+4) B1 (by omega)
   obtain ⟨y5,q5⟩:=someB (p:=k * 11+5) B1 (by omega)
   obtain ⟨y6,q6⟩:=someB (p:=k * 11+6) B1 (by omega)
   obtain ⟨y7,q7⟩:=someB (p:=k * 11+7) B1 (by omega)
   obtain ⟨y8,q8⟩:=someB (p:=k * 11+8) B1 (by omega)
   obtain ⟨y9,q9⟩:=someB (p:=k * 11+9) B1 (by omega)
   obtain ⟨y10,q10⟩:=someB (p:=k * 11+10) B1 (by omega)
   have fz:∀ p,w1.frozen? ⟨w.heap.size,p,none⟩=false:=fun p=>freeB B1
   have HB1:=Hid.intro B1
   have HK1:=Hid.intro (k_trans HB.out hb1)
   clear B1 hb1 HA HB HBk x0 x1 x2 x3 x4 x5 x6 x7 x8 x9 x10
   go_wp2
   go_roundw
   case rel=>exact ⟨k+1,put11 arr (k * 11) x,by omega,by go_num,setB (setB (setB (setB (setB (setB (setB (setB (setB (setB (setB HB1.out _) _) _) _) _) _) _) _) _) _) _,by rw [put11_size];exact hsz,HN,(k_set (k_set (k_set (k_set (k_set (k_set (k_set (k_set (k_set (k_set (k_set HK1.out (Nat.le_refl _) _) (Nat.le_refl _) _) (Nat.le_refl _) _) (Nat.le_refl _) _) (Nat.le_refl _) _) (Nat.le_refl _) _) (Nat.le_refl _) _) (Nat.le_refl _) _) (Nat.le_refl _) _) (Nat.le_refl _) _) (Nat.le_refl _) _),Nat.lt_of_lt_of_eq hw1 (by iterate 11 rw [sizeSet])⟩
   case measure=>simp [intOf];omega
  ·obtain rfl:k=cs.length:=by omega
   go_wp2
   go_ret
   exact ⟨_,rfl,⟨flat_len cellVs 11 (fun _=>rfl) cs,.inr ⟨w.heap.size,cs.length,arr,rfl,Nat.le_refl _,HBk.out,Nat.le_refl _,hlen,hsz,own_arr hsz HA.out⟩⟩,HB.out⟩

set_option maxRecDepth 100000 in
set_option maxHeartbeats 1000000 in
theorem toTblRow_own (u:Value) (cs:List C) (q:Bool) (hn:cs.length≤1048576) (w:World) {z:Nat} (h:CellsAt w z u cs) :
  Calls Try.prog 81 #[.agg #[u,.bool q]] w fun e w'=>∃ a cap,e=.returned (.agg #[.slice a cs.length cap,.bool q])∧OwnC w' (w.heap.size+1) (.slice a cs.length cap) cs∧Below w.heap.size w w':=by
 obtain ⟨a,cap,rfl,hlen⟩:=At.form h
 have H:=Hid.intro h
 clear h
 go_enter Try.func81,Try.ntmps81
 go_wp2_with fail
 refine (toTblCellS_own _ cs hn _ (H.out.kept (k_alloc (k_alloc (k_alloc (Below.refl _ _) _) _) _))).mono ?_
 rintro e w1 ⟨u',rfl,hc',hb1⟩
 obtain ⟨a',cap',rfl,_⟩:=row_form hc'
 obtain ⟨hc1,hf1⟩:=bcell hb1
 have hz1:w.heap.size+1+1 < w1.heap.size:=by have:=hb1.size;simp at this;omega
 have hy1:w.heap.size+1 < w1.heap.size:=by omega
 have hx1:w.heap.size < w1.heap.size:=by omega
 have HC:=Hid.intro hc'
 have HB:=Hid.intro hb1
 clear hc' hb1
 go_wp2
 refine bodyPost_ret (v:=.agg #[.slice a' cs.length cap',.bool q]) (by simp [results,Try.results81,go_sem,hc1]) rfl ⟨a',cap',rfl,?_,?_⟩
 ·exact row_base (row_since (row_since (row_since (row_since HC.out (Since.set (Since.refl _ _) (by simp) _)) (Since.set (Since.refl _ _) (by simp) _)) (Since.set (Since.refl _ _) (by simp) _)) (Since.set (Since.refl _ _) (by simp) _)) (by simp)
 ·exact k_set (k_set (k_set (k_set (k_trans (k_alloc (k_alloc (k_alloc (Below.refl _ _) _) _) _) HB.out) (by dsimp only;omega) _) (by dsimp only;omega) _) (by dsimp only;omega) _) (by dsimp only;omega) _

set_option maxRecDepth 100000 in
set_option maxHeartbeats 1000000 in
theorem toTblRowS_own (v:Value) (rs:List R) (hn:totR rs≤1048576) (w:World) {z:Nat} (h:RowsAt w z v rs) :
  Calls Try.prog 50 #[v] w fun e w'=>∃ a cap ur,e=.returned (.slice a rs.length cap)∧ur.map (·.2)=rs∧OwnR w' w.heap.size (.slice a rs.length cap) ur∧Below w.heap.size w w':=by
 obtain ⟨a,cap,rfl,hlen⟩:=At.form h
 have hl:rs.length≤1048576:=by have:=totR_eq rs;omega
 have hmk:=makeR rs.length hl
 have H:=Hid.intro h
 clear h
 go_enter Try.func50,Try.ntmps50
 go_wp2_with fail
 clear hmk
 go_loopw [4] (fun i W=>∃ (k:Nat) (arr:Array Value),k≤rs.length∧i=.int .i64 k∧Hid (W.heap[w.heap.size]?=some (.cells arr 88))∧arr.size=rs.length * 2∧Hid (ArrO W (w.heap.size+1) arr rs k)∧Hid (Below w.heap.size w W)∧w.heap.size < W.heap.size) (fun i _=>rs.length - (intOf i).toNat)
 case atStart=>exact ⟨0,newR rs.length,Nat.zero_le _,rfl,newestB _ _,newR_size _,ArrO.zero _ _ _ _,k_alloc (Below.refl _ _) _,by simp⟩
 case round =>
  obtain ⟨k,arr,hk,rfl,HBk,hsz,HA,HB,hw⟩:=hrel
  by_cases hlt:k < rs.length
  ·obtain ⟨b,off,cap',e',hc1,hc2,hbl,u,hx0,hx1,hx⟩:=At.get (H.out.kept HB.out) hlt
   simp only [Value.slice.injEq,true_and] at e'
   obtain ⟨rfl,rfl⟩:=e'
   have hlx:(rs.getD k dR).cells.length≤1048576:=by
    have h1:=rwTo_succ hlt
    have h2:=rwTo_le rs (k+1)
    have h3:=totC_eq (rs.getD k dR).cells
    have h4:=totR_eq rs
    omega
   have HN:=Hid.intro (fun (w':World) (hs:Since (w.heap.size+1) wr w') (u:Value) (hu:OwnC w' wr.heap.size u (rs.getD k dR).cells)=>HA.out.next hsz hlt hw hs hu)
   generalize rs.getD k dR=x at hx1 hx HN hlx
   obtain ⟨ua,ucap,rfl,hul⟩:=At.form hx
   have HX:=Hid.intro hx
   unfold maxLen at hc2
   clear hx hul
   go_wp2_with fail
   refine (toTblRow_own _ x.cells x.whole hlx _ HX.out).mono ?_
   rintro e w1 ⟨a1,cap1,rfl,hC1,hb1⟩
   have B1:=(hb1.block w.heap.size hw).trans HBk.out
   have hw1:w.heap.size < w1.heap.size:=Nat.lt_of_lt_of_le hw hb1.size
   obtain ⟨y0,q0⟩:=someB (p:=k * 2) B1 (by omega)
   obtain ⟨y1,q1⟩:=someB (p:=k * 2+1) B1 (by omega)
   have fz:∀ p,w1.frozen? ⟨w.heap.size,p,none⟩=false:=fun p=>freeB B1
   have HB1:=Hid.intro B1
   have HK1:=Hid.intro (k_trans HB.out hb1)
   have HS1:=Hid.intro (Since.set (Since.set (Since.of_below (z:=w.heap.size+1) hb1) (p:=⟨w.heap.size,k * 2,none⟩) (Nat.lt_succ_self _) (.slice a1 x.cells.length cap1)) (p:=⟨w.heap.size,k * 2+1,none⟩) (Nat.lt_succ_self _) (.bool x.whole))
   have HC1:=Hid.intro (row_base (row_since hC1 (Since.set (Since.set (Since.refl _ _) (p:=⟨w.heap.size,k * 2,none⟩) (Nat.lt_succ_of_lt hw) (.slice a1 x.cells.length cap1)) (p:=⟨w.heap.size,k * 2+1,none⟩) (Nat.lt_succ_of_lt hw) (.bool x.whole))) (Nat.le_succ _):OwnC _ wr.heap.size _ _)
   clear B1 hb1 HA HB HBk hC1 hx0 hx1
   go_wp2
   go_roundw
   case rel=>exact ⟨k+1,_,by omega,by go_num,setB (setB HB1.out _) _,by rw [Array.size_setIfInBounds,Array.size_setIfInBounds];exact hsz,HN.out _ HS1.out _ HC1.out,k_set (k_set HK1.out (Nat.le_refl _) _) (Nat.le_refl _) _,Nat.lt_of_lt_of_eq hw1 (by iterate 2 rw [sizeSet])⟩
   case measure=>simp [intOf];omega
  ·obtain rfl:k=rs.length:=by omega
   go_wp2
   go_ret
   obtain ⟨ur,e1,e2⟩:=HA.out.all hsz HBk.out hlen
   exact ⟨_,_,ur,rfl,e1,e2,HB.out⟩

set_option maxRecDepth 100000 in
set_option maxHeartbeats 1000000 in
theorem toTblColS_own (v:Value) (ps:List (Int × Int)) (hn:ps.length≤1048576) (w:World) {z:Nat} (h:ColsAt w z v ps) :
  Calls Try.prog 49 #[v] w fun e w'=>∃ a cap,e=.returned (.slice a ps.length cap)∧OwnCol w' w.heap.size (.slice a ps.length cap) ps∧Below w.heap.size w w':=by
 obtain ⟨a,cap,rfl,hlen⟩:=At.form h
 have hmk:=makeK ps.length hn
 have H:=Hid.intro h
 clear h
 go_enter Try.func49,Try.ntmps49
 go_wp2_with fail
 clear hmk
 go_loopw [4] (fun i W=>∃ (k:Nat) (arr:Array Value),k≤ps.length∧i=.int .i64 k∧Hid (W.heap[w.heap.size]?=some (.cells arr 120))∧arr.size=ps.length * 2∧Hid (ColArr arr ps k)∧Hid (Below w.heap.size w W)∧w.heap.size < W.heap.size) (fun i _=>ps.length - (intOf i).toNat)
 case atStart=>exact ⟨0,newK ps.length,Nat.zero_le _,rfl,newestB _ _,newK_size _,fun i hi=>absurd hi (Nat.not_lt_zero _),k_alloc (Below.refl _ _) _,by simp⟩
 case round =>
  obtain ⟨k,arr,hk,rfl,HBk,hsz,HA,HB,hw⟩:=hrel
  by_cases hlt:k < ps.length
  ·obtain ⟨b,off,cap',e',hc1,hc2,hbl,hx0,hx1⟩:=At.get (H.out.kept HB.out) hlt
   simp only [Value.slice.injEq,true_and] at e'
   obtain ⟨rfl,rfl⟩:=e'
   have HN:=Hid.intro (HA.out.next hsz hlt)
   generalize ps.getD k (0,0)=x at hx0 hx1 HN
   unfold maxLen at hc2
   go_wp2_with fail
   refine (toTblCol_any _ _ _).mono ?_
   rintro e w1 ⟨rfl,hb1⟩
   have B1:=(hb1.block w.heap.size hw).trans HBk.out
   have hw1:w.heap.size < w1.heap.size:=Nat.lt_of_lt_of_le hw hb1.size
   obtain ⟨y0,q0⟩:=someB (p:=k * 2) B1 (by omega)
   obtain ⟨y1,q1⟩:=someB (p:=k * 2+1) B1 (by omega)
   have fz:∀ p,w1.frozen? ⟨w.heap.size,p,none⟩=false:=fun p=>freeB B1
   have HB1:=Hid.intro B1
   have HK1:=Hid.intro (k_trans HB.out hb1)
   clear B1 hb1 HA HB HBk hx0 hx1
   go_wp2
   go_roundw
   case rel=>exact ⟨k+1,_,by omega,by go_num,setB (setB HB1.out _) _,by rw [Array.size_setIfInBounds,Array.size_setIfInBounds];exact hsz,HN,k_set (k_set HK1.out (Nat.le_refl _) _) (Nat.le_refl _) _,Nat.lt_of_lt_of_eq hw1 (by iterate 2 rw [sizeSet])⟩
   case measure=>simp [intOf];omega
  ·obtain rfl:k=ps.length:=by omega
   go_wp2
   go_ret
   exact ⟨_,_,rfl,⟨flat_len colVs 2 (fun _=>rfl) ps,.inr ⟨w.heap.size,ps.length,arr,rfl,Nat.le_refl _,HBk.out,Nat.le_refl _,hlen,hsz,own_cols hsz HA.out⟩⟩,HB.out⟩

set_option maxRecDepth 100000 in
set_option maxHeartbeats 1000000 in
theorem toTblTable_own (v:Value) (t:T) (hn:totT t≤1048576) (w:World) {z:Nat} (h:TblAt w z v t) :
  Calls Try.prog 23 #[v] w fun e w'=>∃ ac cc ar cr,e=.returned (.agg #[.slice ac t.cols.length cc,.int .i64 t.head,.int .i64 t.foot,.slice ar t.rows.length cr,.int .i64 t.gap]) ∧
   OwnT w' w.heap.size (.slice ac t.cols.length cc) (.slice ar t.rows.length cr) t∧Below w.heap.size w w':=by
 obtain ⟨vc,vr,rfl,h1,h2⟩:=h
 obtain ⟨ac,capc,rfl,hlc⟩:=At.form h1
 obtain ⟨ar,capr,rfl,hlr⟩:=At.form h2
 have hn1:t.cols.length≤1048576:=by unfold totT at hn;omega
 have hn2:totR t.rows≤1048576:=by unfold totT at hn;omega
 have H1:=Hid.intro h1
 have H2:=Hid.intro h2
 clear h1 h2 hlc hlr hn
 go_enter Try.func23,Try.ntmps23
 go_wp2_with fail
 refine (toTblColS_own _ t.cols hn1 _ (H1.out.kept (k_alloc (k_alloc (k_alloc (Below.refl _ _) _) _) _))).mono ?_
 rintro e w1 ⟨a1,cap1,rfl,hC1,hb1⟩
 obtain ⟨hc1,hf1⟩:=bcell hb1
 have hz1:w.heap.size+1+1 < w1.heap.size:=by have:=hb1.size;simp at this;omega
 have hy1:w.heap.size+1 < w1.heap.size:=by omega
 have hx1:w.heap.size < w1.heap.size:=by omega
 have HC1:=Hid.intro hC1
 have HB1:=Hid.intro hb1
 clear hC1 hb1
 go_wp2_with fail
 refine (toTblRowS_own _ t.rows hn2 _ (H2.out.kept (k_set (k_set (k_set (k_trans (k_alloc (k_alloc (k_alloc (Below.refl _ _) _) _) _) HB1.out) (by dsimp only;omega) _) (by dsimp only;omega) _) (by dsimp only;omega) _))).mono ?_
 rintro e w2 ⟨a2,cap2,ur,rfl,hur,hC2,hb2⟩
 obtain ⟨hc2,hf2⟩:=bcell hb2
 have hz2:w.heap.size+1+1 < w2.heap.size:=by have:=hb2.size;simp at this;omega
 have hy2:w.heap.size+1 < w2.heap.size:=by omega
 have hx2:w.heap.size < w2.heap.size:=by omega
 have HC2:=Hid.intro hC2
 have HB2:=Hid.intro hb2
 clear hC2 hb2
 go_wp2
 refine bodyPost_ret (v:=.agg #[.slice a1 t.cols.length cap1,.int .i64 t.head,.int .i64 t.foot,.slice a2 t.rows.length cap2,.int .i64 t.gap]) (by simp [results,Try.results23,go_sem,hc1,hc2,hy1]) rfl ⟨a1,cap1,a2,cap2,rfl,⟨ur,hur,?_,?_⟩,?_⟩
 ·exact row_base (row_since (row_since HC1.out (Since.set (Since.set (Since.set (Since.refl _ _) (by simp) _) (by simp) _) (by simp) _)) (Since.set (Since.set (Since.set (Since.set (Since.set (Since.set (Since.set (Since.of_below HB2.out) (by simp) _) (by simp) _) (by simp) _) (by simp) _) (by simp) _) (by simp) _) (by simp) _)) (by simp;omega)
 ·exact (HC2.out.since (Since.set (Since.set (Since.set (Since.set (Since.set (Since.set (Since.set (Since.refl _ _) (by simp;omega) _) (by simp;omega) _) (by simp;omega) _) (by simp;omega) _) (by simp;omega) _) (by simp;omega) _) (by simp;omega) _)).base (by simp;omega)
 ·exact (k_set (k_set (k_set (k_set (k_set (k_set (k_set (k_trans (k_set (k_set (k_set (k_trans (k_alloc (k_alloc (k_alloc (Below.refl _ _) _) _) _) HB1.out) (by dsimp only;omega) _) (by dsimp only;omega) _) (by dsimp only;omega) _) HB2.out) (by dsimp only;omega) _) (by dsimp only;omega) _) (by dsimp only;omega) _) (by dsimp only;omega) _) (by dsimp only;omega) _) (by dsimp only;omega) _) (by dsimp only;omega) _)
end Go.Proofs.Ytggmjiddadjilao
