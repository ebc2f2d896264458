/-
  PROVED HERE: a grid that the laws' own toGrdGrid makes owns its memory, and the laws' own markGrdGrid turns that memory alone. Also: lists of texts that own their memory, and what the laws' own eqStringS, markText, markStringS and heldStringS answer of them; what lies ahead of the list that is marked is not turned.
-/
import Derived.Test.YtggmjiddadjilaoB7
import Derived.Test.YtggmjiddadjilaoB6
import Derived.Laws.AppendOwn
import Derived.Laws.IdiomStrings
import Derived.WalkLawsBesides
import Derived.WalkSpells
import Derived.Deep.RegionWith
import Derived.Deep.QuietTactic
import Derived.BigQuiet
namespace Go.Proofs.Ytggmjiddadjilao
open Go.RowKit

/-- so many cells in a block of their own, at B or behind it, ahead of D -/
def OwnG (w:World) (B D:Nat) (v:Value) (n:Nat):Prop :=
 ∃ g cap arr,v=.slice (some ⟨g,0,none⟩) n cap∧B≤g∧g < D∧w.heap[g]?=some (.cells arr 104)∧arr.size=n * 5∧n≤cap∧cap≤maxLen
theorem OwnG.kept {w w':World} {B D n:Nat} {v:Value} (h:OwnG w B D v n) (k:∀ j,B≤j→j < D→w'.heap[j]?=w.heap[j]?):OwnG w' B D v n:=by
 obtain ⟨g,cap,arr,hv,hb,hd,hg,r⟩:=h
 exact ⟨g,cap,arr,hv,hb,hd,(k g hb hd).trans hg,r⟩
theorem OwnG.below {w w':World} {B D C n:Nat} {v:Value} (h:OwnG w B D v n) (k:Below C w w') (hC:D≤C):OwnG w' B D v n:=h.kept (fun j _ h2=>k.block j (Nat.lt_of_lt_of_le h2 hC))
theorem OwnG.since4 {w:World} {B B' D D' n:Nat} {v:Value} {p1 p2 p3 p4:Addr} {u1 u2 u3 u4:Value} (h:OwnG w B D v n) (hB:B'≤B) (h1:p1.block < B) (h2:p2.block < B) (h3:p3.block < B) (h4:p4.block < B) (hD:D'=D) :
  OwnG ((((w.setCell p1 u1).setCell p2 u2).setCell p3 u3).setCell p4 u4) B' D' v n:=by
 subst hD
 obtain ⟨g,cap,arr,hv,hb,hd,hg,r⟩:=h
 refine ⟨g,cap,arr,hv,by omega,hd,?_,r⟩
 rw [Below.heap_setCell _ _ _ _ (by omega),Below.heap_setCell _ _ _ _ (by omega),Below.heap_setCell _ _ _ _ (by omega),Below.heap_setCell _ _ _ _ (by omega)]
 exact hg

set_option maxRecDepth 100000 in
set_option maxHeartbeats 1000000 in
theorem toGrdCellS_own (v:Value) (gs:List GC) (hn:gs.length≤1048576) (w:World) {z:Nat} (h:GsAt w z v gs) :
  Calls Try.prog 36 #[v] w fun e w'=>∃ a cap,e=.returned (.slice a gs.length cap)∧GsAt w' w.heap.size (.slice a gs.length cap) gs∧OwnG w' w.heap.size w'.heap.size (.slice a gs.length cap) gs.length∧Below w.heap.size w w':=by
 obtain ⟨a,cap,rfl,hlen⟩:=At.form h
 have hmk:=makeG gs.length hn
 have H:=Hid.intro h
 clear h
 go_enter Try.func36,Try.ntmps36
 go_wp2_with fail
 clear hmk
 go_loopw [4] (fun i W=>∃ (k:Nat) (arr:Array Value),k≤gs.length∧i=.int .i64 k∧Hid (W.heap[w.heap.size]?=some (.cells arr 104))∧arr.size=gs.length * 5∧Hid (∀ i,i < k→GArr arr (i * 5) (gs.getD i dG))∧Hid (Below w.heap.size w W)∧w.heap.size < W.heap.size) (fun i _=>gs.length - (intOf i).toNat)
 case atStart=>exact ⟨0,newG gs.length,Nat.zero_le _,rfl,newestB _ _,newG_size _,fun i hi=>absurd hi (Nat.not_lt_zero _),k_alloc (Below.refl _ _) _,by simp⟩
 case round =>
  obtain ⟨k,arr,hk,rfl,HBk,hsz,HA,HB,hw⟩:=hrel
  by_cases hlt:k < gs.length
  ·obtain ⟨b,off,cap',e',hc1,hc2,hbl,hx,hs⟩:=At.get (H.out.kept HB.out) hlt
   simp only [Value.slice.injEq,true_and] at e'
   obtain ⟨rfl,rfl⟩:=e'
   have HN:=Hid.intro (put5_next hsz hlt HA.out)
   clear hs
   generalize gs.getD k dG=x at hx HN
   obtain ⟨x0,x1,x2,x3,x4⟩:=hx
   unfold maxLen at hc2
   go_wp2_with fail
   refine (toGrdCell_any _ _ _ _ _ _).mono ?_
   rintro e w1 ⟨rfl,hb1⟩
   have B1:=(hb1.block w.heap.size hw).trans HBk.out
   have hw1:w.heap.size < w1.heap.size:=Nat.lt_of_lt_of_le hw hb1.size
   obtain ⟨y0,q0⟩:=someB (p:=k * 5) B1 (by omega)
   obtain ⟨y1,q1⟩:=someB (p:=k * 5+1) B1 (by omega)
   obtain ⟨y2,q2⟩:=someB (p:=k * 5+2) B1 (by omega)
   obtain ⟨y3,q3⟩:=someB (p:=k * 5+3) B1 (by omega)
   obtain ⟨y4,q4⟩:=someB (p:=k * 5+4) B1 (by omega)
   have fz:∀ p,w1.frozen? ⟨w.heap.size,p,none⟩=false:=fun p=>freeB B1
   have HB1:=Hid.intro B1
   have HK1:=Hid.intro (k_trans HB.out hb1)
   clear B1 hb1 HA HB HBk x0 x1 x2 x3 x4
   go_wp2
   go_roundw
   case rel=>exact ⟨k+1,put5 arr (k * 5) x,by omega,by go_num,setB (setB (setB (setB (setB HB1.out _) _) _) _) _,by rw [put5_size];exact hsz,HN,(k_set (k_set (k_set (k_set (k_set HK1.out (Nat.le_refl _) _) (Nat.le_refl _) _) (Nat.le_refl _) _) (Nat.le_refl _) _) (Nat.le_refl _) _),Nat.lt_of_lt_of_eq hw1 (by iterate 5 rw [sizeSet])⟩
   case measure=>simp [intOf];omega
  ·obtain rfl:k=gs.length:=by omega
   go_wp2
   go_ret
   refine ⟨_,_,rfl,⟨_,_,rfl,Nat.le_refl _,hlen,fun i hi=>⟨w.heap.size,0,rfl,hw,Nat.le_refl _,?_,?_⟩⟩,⟨w.heap.size,_,arr,rfl,Nat.le_refl _,hw,HBk.out,hsz,Nat.le_refl _,hlen⟩,HB.out⟩
   ·rw [Nat.zero_add];exact GIs.of_arr HBk.out (HA.out i hi)
   ·obtain ⟨_,_,_,_,_,_,_,_,hs⟩:=At.get H.out hi;exact hs

set_option maxRecDepth 100000 in
set_option maxHeartbeats 1000000 in
theorem toGrdGrid_own (a b:Int) (v:Value) (gs:List GC) (hn:gs.length≤1048576) (w:World) {z:Nat} (h:GsAt w z v gs) :
  Calls Try.prog 13 #[.agg #[.int .i64 a,.int .i64 b,v]] w fun e w'=>∃ ac cc,e=.returned (.agg #[.int .i64 a,.int .i64 b,.slice ac gs.length cc])∧GsAt w' w.heap.size (.slice ac gs.length cc) gs∧OwnG w' w.heap.size w'.heap.size (.slice ac gs.length cc) gs.length∧Below w.heap.size w w':=by
 obtain ⟨c,cap,rfl,hlen⟩:=At.form h
 have H:=Hid.intro h
 clear h
 go_enter Try.func13,Try.ntmps13
 go_wp2_with fail
 refine (toGrdCellS_own _ gs hn _ (H.out.kept (k_alloc (k_alloc (k_alloc (Below.refl _ _) _) _) _))).mono ?_
 rintro e w1 ⟨a1,cap1,rfl,hC1,hO1,hb1⟩
 obtain ⟨hc1,hf1⟩:=bcell hb1
 have hz1:w.heap.size+1+1 < w1.heap.size:=by have:=hb1.size;simp at this;omega
 have hy1:w.heap.size+1 < w1.heap.size:=by omega
 have hx1:w.heap.size < w1.heap.size:=by omega
 have HC1:=Hid.intro hC1
 have HO1:=Hid.intro hO1
 have HB1:=Hid.intro hb1
 clear hC1 hb1 hO1
 go_wp2
 refine bodyPost_ret (v:=.agg #[.int .i64 a,.int .i64 b,.slice a1 gs.length cap1]) (by simp [results,Try.results13,go_sem,hc1]) rfl ⟨a1,cap1,rfl,?_,?_,?_⟩
 ·exact (HC1.out.since (Since.set (Since.set (Since.set (Since.set (Since.refl _ _) (by simp) _) (by simp) _) (by simp) _) (by simp) _)).base (by simp;omega)
 ·exact HO1.out.since4 (by simp;omega) (by simp) (by simp) (by simp) (by simp) (by iterate 4 rw [sizeSet])
 ·exact k_set (k_set (k_set (k_set (k_trans (k_alloc (k_alloc (k_alloc (Below.refl _ _) _) _) _) HB1.out) (by dsimp only;omega) _) (by dsimp only;omega) _) (by dsimp only;omega) _) (by dsimp only;omega) _


set_option maxRecDepth 100000 in
set_option maxHeartbeats 2000000 in
theorem markGrdCellS_any (v:Value) (n:Nat) (hn:n≤1048576) (B D:Nat) (w:World) (h:OwnG w B D v n) :
  Calls Try.prog 41 #[v,.int .i64 1] w fun e w'=>e=.returned (.int .i64 (1+5 * (n:Int)))∧Out B D w w':=by
 obtain ⟨g,cap,arr0,rfl,hgb,hgd,hg0,hsz0,hc1,hc2⟩:=h
 unfold maxLen at hc2
 go_enter Try.func41,Try.ntmps41
 go_wp2_with fail
 go_loopw [1,5] (fun q i W=>∃ (k:Nat) (arr:Array Value),k≤n∧i=.int .i64 k∧q=.int .i64 (1+5 * (k:Int))∧Hid (W.heap[g]?=some (.cells arr 104))∧arr.size=n * 5∧Hid (Out B D w W)) (fun _ i _=>n - (intOf i).toNat)
 case atStart=>exact ⟨0,arr0,Nat.zero_le _,rfl,by simp,hg0,hsz0,Out.refl _ _ _⟩
 case round =>
  obtain ⟨k,arr,hk,rfl,rfl,HG,hsz,HO⟩:=hrel
  by_cases hlt:k < n
  ·obtain ⟨y0,q0⟩:=someB (p:=k * 5) HG.out (by omega)
   obtain ⟨y1,q1⟩:=someB (p:=k * 5+1) HG.out (by omega)
   obtain ⟨y2,q2⟩:=someB (p:=k * 5+2) HG.out (by omega)
   obtain ⟨y3,q3⟩:=someB (p:=k * 5+3) HG.out (by omega)
   obtain ⟨y4,q4⟩:=someB (p:=k * 5+4) HG.out (by omega)
   have fz:∀ p,wr.frozen? ⟨g,p,none⟩=false:=fun p=>freeB HG.out
   go_wp2
   go_roundw
   case rel=>exact ⟨k+1,_,by omega,by go_num,by go_num,setB (setB (setB (setB (setB HG.out _) _) _) _) _,by simp [hsz],((((HO.out.set hgb hgd _).set hgb hgd _).set hgb hgd _).set hgb hgd _).set hgb hgd _⟩
   case measure=>simp [intOf];omega
  ·obtain rfl:k=n:=by omega
   go_wp2
   go_ret
   exact ⟨rfl,HO.out⟩

set_option maxRecDepth 100000 in
set_option maxHeartbeats 1000000 in
theorem markGrdGrid_any (a b:Int) (v:Value) (n:Nat) (hn:n≤1048576) (B D:Nat) (w:World) (hD:D≤w.heap.size) (h:OwnG w B D v n) :
  Calls Try.prog 17 #[.agg #[.int .i64 a,.int .i64 b,v],.int .i64 1] w fun e w'=>e=.returned (.int .i64 (1+5 * (n:Int)))∧Out B D w w':=by
 have H:=Hid.intro (h.below (Below.refl D w |>.alloc (by omega) (.cells #[.int .i64 a,.int .i64 b,v] 36)) (Nat.le_refl _))
 obtain ⟨g,cap,arr0,rfl,_⟩:=h
 go_enter Try.func17,Try.ntmps17
 go_wp2_with fail
 refine (markGrdCellS_any _ n hn B D _ H.out).mono ?_
 rintro e w1 ⟨rfl,ho⟩
 have HO:Hid (Out B D w w1):=⟨((Below.refl B w).alloc (by have:=H.out;obtain ⟨_,_,_,_,h1,h2,_⟩:=this;omega) _).trans ho.below,fun k h1 h2=>(ho.block k h1 (by simp;omega)).trans (Below.heap_alloc _ _ _ h2)⟩
 clear ho
 go_wp2
 go_ret
 exact ⟨rfl,HO.out⟩
end Go.Proofs.Ytggmjiddadjilao
namespace Go.Proofs.Ytggmjiddadjilao
open Go.RowKit

/-- a mark's digits, and a mark -/
def digs (n:Nat) (out:ByteArray):ByteArray:=if n=0 then out else digs (n / 10) (⟨#[48+UInt8.ofNat (n % 10)]⟩ ++ out)
termination_by n
decreasing_by omega
def mt (k:Nat):ByteArray:=⟨#[109]⟩ ++ digs k ⟨#[]⟩

set_option maxRecDepth 100000 in
set_option maxHeartbeats 1000000 in
theorem markText_any (k:Nat) (h0:0 < k) (hk:k≤99) (w:World) :
  Calls Try.prog 42 #[.int .i64 k] w fun e w'=>e=.returned (.string (mt k))∧Below w.heap.size w w':=by
 have hp:¬ (k:Int)≤0:=by omega
 go_enter Try.func42,Try.ntmps42
 go_wp2_with fail
 go_loopw [0,3] (fun q o W=>∃ (m:Nat) (out:ByteArray),q=.int .i64 m∧o=.string out∧digs m out=digs k ⟨#[]⟩∧(out.size=0∧m≤99∨out.size=1∧m≤9∨out.size=2∧m=0)∧Hid (Below w.heap.size w W)) (fun q _ _=>(intOf q).toNat)
 case atStart=>exact ⟨k,⟨#[]⟩,rfl,rfl,rfl,.inl ⟨rfl,hk⟩,Below.refl _ _⟩
 case round =>
  obtain ⟨m,out,rfl,rfl,hd,hsz,HB⟩:=hrel
  have HD:=Hid.intro hd
  clear hd
  by_cases hm:0 < m
  ·have hs:out.size≤1:=by omega
   have hmm:m≤99:=by omega
   have hcv:(convert 73 9 (.slice (some ⟨wr.heap.size,0,none⟩) 1 1)).run Try.prog (wr.alloc (.cells #[.int .u8 (48+(m:Int) % 10)] 5))=.ok (.string ⟨#[48+UInt8.ofNat (m % 10)]⟩) (wr.alloc (.cells #[.int .u8 (48+(m:Int) % 10)] 5)) :=
    run_convert_bytes_back _ _ _ 5 ⟨wr.heap.size,0,none⟩ 1 [48+UInt8.ofNat (m % 10)] Try.underlying73 Try.underlying5 Try.underlying9 (fun i hi=>by
     match i,hi with
     | 0,_=>simp [Addr.add,UInt8.toNat_add];omega)
   have hz1:¬ 9223372036854775807 < 1+out.size:=by omega
   have HE:Hid (digs m out=digs (m / 10) (⟨#[48+UInt8.ofNat (m % 10)]⟩ ++ out)):=by show _=_;rw [digs,if_neg (by omega)]
   have hsn:(ByteArray.mk #[48+UInt8.ofNat (m % 10)] ++ out).size=1+out.size:=by rw [ByteArray.size_append];rfl
   go_wp2
   go_roundw
   case rel=>exact ⟨m / 10,_,by go_num,rfl,by rw [← HE.out];exact HD.out,by rw [hsn];omega,k_alloc HB.out _⟩
   case measure=>simp [intOf];omega
  ·obtain rfl:m=0:=by omega
   have hs:out.size≤2:=by omega
   have HE:Hid (digs 0 out=out):=by show _=_;rw [digs,if_pos rfl]
   have hz1:¬ 9223372036854775807 < 1+out.size:=by omega
   go_wp2
   go_ret
   exact ⟨by rw [mt,← HD.out,HE.out];rfl,HB.out⟩

/-- the first i of a list turned to marks -/
def marked (l:List ByteArray) (i:Nat):List ByteArray:=(List.range i).map (fun j=>mt (1+j)) ++ l.drop i
theorem marked_len {l:List ByteArray} {i:Nat} (h:i≤l.length):(marked l i).length=l.length:=by simp [marked];omega
theorem marked_zero (l:List ByteArray):marked l 0=l:=by simp [marked]
theorem marked_next {l:List ByteArray} {i:Nat} (h:i < l.length):(marked l i).set i (mt (1+i))=marked l (i+1):=by
 unfold marked
 rw [List.set_append_right _ _ (by simp),List.range_succ,List.map_append]
 simp only [List.length_map,List.length_range,Nat.sub_self,List.map_cons,List.map_nil,List.append_assoc]
 rw [List.drop_eq_getElem_cons h]
 rfl
theorem marked_get {l:List ByteArray} {i:Nat} (h:i < l.length):(marked l l.length).getD i eS=mt (1+i):=by
 simp [marked,List.getD,h]

set_option maxRecDepth 100000 in
set_option maxHeartbeats 1000000 in
theorem markStringS_any (v:Value) (l:List ByteArray) (hl:l.length≤90) (B:Nat) (w:World) (hB:B≤w.heap.size) (h:RowS w B v l) :
  Calls Try.prog 18 #[v,.int .i64 1] w fun e w'=>e=.returned (.int .i64 (1+(l.length:Int)))∧RowS w' B v (marked l l.length)∧Below B w w':=by
 obtain ⟨a,cap,rfl⟩:=h.form
 go_enter Try.func18,Try.ntmps18
 go_wp2_with fail
 go_loopw [1,5] (fun q i W=>∃ k:Nat,k≤l.length∧i=.int .i64 k∧q=.int .i64 (1+(k:Int))∧Hid (RowS W B (.slice a l.length cap) (marked l k))∧Hid (Below B w W)) (fun _ i _=>l.length - (intOf i).toNat)
 case atStart=>exact ⟨0,Nat.zero_le _,rfl,by simp,by rw [marked_zero];exact h,Below.refl _ _⟩
 case round =>
  obtain ⟨k,hk,rfl,rfl,HR,HB⟩:=hrel
  by_cases hlt:k < l.length
  ·have hml:=marked_len hk
   obtain ⟨g,cap',e',hg,hgs,h1,h2,hx,hf⟩:=HR.out.get (i:=k) (by omega)
   rw [hml] at e' h1
   simp only [Value.slice.injEq,true_and] at e'
   obtain ⟨rfl,rfl⟩:=e'
   have HM:=Hid.intro (markText_any (1+k) (by omega) (by omega))
   have e1:((1+k:Nat):Int)=1+(k:Int):=by omega
   rw [e1] at HM
   have HN:=Hid.intro (marked_next hlt)
   have hbs:=HB.out.size
   unfold maxLen at h2
   generalize (marked l k).getD k eS=y at hx
   go_wp2_with fail
   refine (HM.out _).mono ?_
   rintro e w1 ⟨rfl,hb1⟩
   have hx1:=(hb1.cell (p:=⟨g,k,none⟩) hgs).trans hx
   have hf1:=(hb1.frozen (p:=⟨g,k,none⟩) hgs).trans hf
   have HR1:=Hid.intro ((HR.out.below hb1 (Nat.le_refl _)).set (i:=k) (by omega) (mt (1+k)))
   have HB1:=Hid.intro ((HB.out.trans (hb1.mono (by omega))).setCell (p:=⟨g,k,none⟩) hg (.string (mt (1+k))))
   clear hb1
   go_wp2
   go_roundw
   case rel=>exact ⟨k+1,by omega,by go_num,by go_num,by rw [← HN.out];exact HR1,HB1⟩
   case measure=>simp [intOf];omega
  ·obtain rfl:k=l.length:=by omega
   go_wp2
   go_ret
   exact ⟨rfl,HR.out,HB.out⟩

set_option maxRecDepth 100000 in
set_option maxHeartbeats 1000000 in
theorem heldStringS_any (v:Value) (l:List ByteArray) (hl:l.length≤90) (B:Nat) (w:World) (h:RowS w B v (marked l l.length)) :
  Calls Try.prog 19 #[v,.int .i64 1] w fun e w'=>e=.returned (.int .i64 (1+(l.length:Int)))∧Below w.heap.size w w':=by
 obtain ⟨a,cap,rfl⟩:=h.form
 have hml:=marked_len (l:=l) (Nat.le_refl _)
 rw [hml]
 have H:=Hid.intro h
 clear h
 go_enter Try.func19,Try.ntmps19
 go_wp2_with fail
 go_loopw [1,5] (fun q i W=>∃ k:Nat,k≤l.length∧i=.int .i64 k∧q=.int .i64 (1+(k:Int))∧Hid (Below w.heap.size w W)) (fun _ i _=>l.length - (intOf i).toNat)
 case atStart=>exact ⟨0,Nat.zero_le _,rfl,by simp,Below.refl _ _⟩
 case round =>
  obtain ⟨k,hk,rfl,rfl,HB⟩:=hrel
  by_cases hlt:k < l.length
  ·obtain ⟨g,cap',e',hg,hgs,h1,h2,hx,hf⟩:=(H.out.below HB.out (Nat.le_refl _)).get (i:=k) (by omega)
   rw [hml] at e' h1
   simp only [Value.slice.injEq,true_and] at e'
   obtain ⟨rfl,rfl⟩:=e'
   rw [marked_get hlt] at hx
   have HM:=Hid.intro (markText_any (1+k) (by omega) (by omega))
   have e1:((1+k:Nat):Int)=1+(k:Int):=by omega
   rw [e1] at HM
   unfold maxLen at h2
   have hk0:(0:Int)≤(k:Int):=by omega
   have hk1:(k:Int) < (l.length:Int):=by omega
   clear hf
   generalize mt (1+k)=y at hx HM
   go_wp2_with fail
   go_region_with (go_at_call 42;refine (HM.out _).mono ?_;rintro e w1 ⟨rfl,hb1⟩;have hx1:=(hb1.cell (p:=⟨g,k,none⟩) hgs).trans hx;have HB1:=Hid.intro (k_trans (k_drew HB.out) hb1);clear hb1)
   all_goals
    go_wp2
    go_roundw
    case rel=>exact ⟨k+1,by omega,by go_num,by go_num,HB1⟩
    case measure=>simp [intOf];omega
  ·obtain rfl:k=l.length:=by omega
   go_wp2
   go_ret
   exact ⟨rfl,HB.out⟩

set_option maxRecDepth 100000 in
set_option maxHeartbeats 1000000 in
theorem eqRowS_any (v1 v2:Value) (l:List ByteArray) (hl:l.length≤90) (B1 B2:Nat) (w:World) (h1:RowS w B1 v1 l) (h2:RowS w B2 v2 l) :
  Calls Try.prog 15 #[v1,v2] w fun e w'=>e=.returned (.bool true)∧∃ n,w'=w.drewN n:=by
 obtain ⟨a1,cap1,rfl⟩:=h1.form
 obtain ⟨a2,cap2,rfl⟩:=h2.form
 have hne:((l.length:Int) != (l.length:Int))=false:=by simp
 have H1:=Hid.intro h1
 have H2:=Hid.intro h2
 clear h1 h2
 go_enter Try.func15,Try.ntmps15
 go_wp2_with fail
 go_loopw [5] (fun i W=>∃ k n:Nat,k≤l.length∧i=.int .i64 k∧W=w.drewN n) (fun i _=>l.length - (intOf i).toNat)
 case atStart=>exact ⟨0,0,Nat.zero_le _,rfl,rfl⟩
 case round =>
  obtain ⟨k,nd,hk,rfl,rfl⟩:=hrel
  by_cases hlt:k < l.length
  ·obtain ⟨g1,cap1',e1,_,_,hc11,hc12,x0,_⟩:=H1.out.get hlt
   simp only [Value.slice.injEq,true_and] at e1
   obtain ⟨rfl,rfl⟩:=e1
   obtain ⟨g2,cap2',e2,_,_,hc21,hc22,y0,_⟩:=H2.out.get hlt
   simp only [Value.slice.injEq,true_and] at e2
   obtain ⟨rfl,rfl⟩:=e2
   unfold maxLen at hc12 hc22
   generalize l.getD k eS=x at x0 y0
   go_wp2_with fail
   go_quiet (fail)
   go_wp2
   go_roundw
   case rel=>exact ⟨k+1,nd+nq,by omega,by go_num,rfl⟩
   case measure=>simp [intOf];omega
  ·go_wp2
   go_ret
   exact ⟨rfl,nd,rfl⟩
end Go.Proofs.Ytggmjiddadjilao
