/-
  PROVED HERE: what the model's l4Next answers of lists in memory; the four rows that the model's l4Share keeps. Also: what the model's ShrShare answers at every argument: the list 'shareL', in memory of its own; nothing that was in memory is turned. Also: what the model's l5Said answers at a table that lies in memory; nothing that was in memory is turned. Also: where columns begin and end, and how wide a cell is, at small numbers. Also: what the model's l1Among answers at every argument; nothing in memory is turned.
-/
import Derived.Test.YtcbibdhlkdcmiafGreatB25
import Derived.Test.YtcbibdhlkdcmiafGreatB30
import Derived.Test.YtcbibdhlkdcmiafGreatB24
import Derived.Test.YtcbibdhlkdcmiafGreatB26
import Derived.Test.YtcbibdhlkdcmiafGreatB17
import Derived.Test.YtcbibdhlkdcmiafGreatB12
import Derived.Maps.AppendAt
import Derived.Deep.QuietTactic
import Derived.BigQuiet
namespace Go.Proofs.YtcbibdhlkdcmiafGreat
open Go.RowKit

/-- a list of Bools, in the block gb -/
def BoolsAt (w:World) (gb:Nat) (bl:List Bool):Prop:=∃ bs,w.heap[gb]?=some (.cells bs 4)∧bs.size=bl.length∧∀ i,i < bl.length→bs[i]?=some (.bool (bl.getD i false))
theorem BoolsAt.get {w:World} {gb:Nat} {bl:List Bool} (h:BoolsAt w gb bl) {i:Nat} (hi:i < bl.length):w.cell? ⟨gb,i,none⟩=some (.bool (bl.getD i false))∧w.frozen? ⟨gb,i,none⟩=false:=by
 obtain ⟨bs,h1,h2,h3⟩:=h
 exact ⟨(cellB h1).trans (h3 i hi),freeB h1⟩
theorem BoolsAt.kept {w w':World} {gb:Nat} {bl:List Bool} (h:BoolsAt w gb bl) (hb:w'.heap[gb]?=w.heap[gb]?):BoolsAt w' gb bl:=by
 obtain ⟨bs,h1,h2⟩:=h
 exact ⟨bs,hb.trans h1,h2⟩
theorem BoolsAt.set {w:World} {gb:Nat} {bl:List Bool} (h:BoolsAt w gb bl) (i:Nat) (hi:i < bl.length) (x:Bool):BoolsAt (w.setCell ⟨gb,i,none⟩ (.bool x)) gb (bl.set i x):=by
 obtain ⟨bs,h1,h2,h3⟩:=h
 refine ⟨_,setB h1 _,by simpa using h2,fun j hj=>?_⟩
 rw [List.length_set] at hj
 by_cases e:i=j
 ·subst e
  simp [List.getD,hj,show i < bs.size by omega]
 ·rw [Array.getElem?_setIfInBounds_ne e,h3 j hj]
  simp [List.getD,e]

set_option maxRecDepth 100000 in
set_option maxHeartbeats 2000000 in
theorem l4Next_any (v:Value) (lr:List Int) (gb cap:Nat) (bl:List Bool) (hl:bl.length=lr.length) (w:World) (h:IntsAt w v lr) (hb:BoolsAt w gb bl) :
  Calls Tryz.prog 113 #[v,.slice (some ⟨gb,0,none⟩) lr.length cap] w fun e w'=>∃ k:Int,e=.returned (.int .i64 k)∧NextP lr bl lr.length k∧∃ q,w'=w.drewN q:=by
 obtain ⟨a,ca,rfl,_⟩:=h.form
 have H:=Hid.intro h
 have HBo:=Hid.intro hb
 have HL:=Hid.intro hl
 clear h hb hl
 go_enter Tryz.func113,Tryz.ntmps113
 go_wp2_with fail
 go_loopw [5,6] (fun s5 s6 W=>∃ (m nd:Nat) (k:Int),m≤lr.length∧s6=.int .i64 m∧s5=.int .i64 k∧Hid (NextP lr bl m k)∧W=w.drewN nd) (fun _ s6 _=>lr.length - (intOf s6).toNat)
 case atStart=>exact ⟨0,0,-1,Nat.zero_le _,rfl,rfl,NextP.zero lr bl,rfl⟩
 case round =>
  obtain ⟨m,nd,k,hm,rfl,rfl,HN,rfl⟩:=hrel
  by_cases hlt:m < lr.length
  ·obtain ⟨cb,fb⟩:=HBo.out.get (i:=m) (by rw [HL.out];exact hlt)
   obtain ⟨b,off,cap',e',hc1,hc2,hbl,hx⟩:=H.out.get hlt
   simp only [Value.slice.injEq,true_and] at e'
   obtain ⟨rfl,rfl⟩:=e'
   unfold maxLen at hc2
   cases hbm:bl.getD m false with
   | true =>
    rw [hbm] at cb
    have HN2:=Hid.intro (HN.out.got hbm)
    clear hbm
    go_wp2_with fail
    go_quiet (fail)
    go_wp2
    go_roundw
    case rel=>exact ⟨m+1,nd+nq,k,by omega,by go_num,rfl,HN2,rfl⟩
    case measure=>simp [intOf];omega
   | false =>
    rw [hbm] at cb
    rcases HN.out with ⟨hk,h2⟩ | ⟨j,hk,h2,h3,h4⟩
    ·have HN2:=Hid.intro (NextP.first (lr:=lr) h2 hbm)
     subst hk
     clear hbm h2
     go_wp2_with fail
     go_quiet (fail)
     go_wp2
     go_roundw
     case rel=>exact ⟨m+1,nd+nq,m,by omega,by go_num,rfl,HN2,rfl⟩
     case measure=>simp [intOf];omega
    ·obtain ⟨b2,off2,cap2,e2,_,_,_,hy⟩:=H.out.get (i:=j) (by omega)
     simp only [Value.slice.injEq,Option.some.injEq,Addr.mk.injEq,and_true,true_and] at e2
     obtain ⟨⟨q1,q2⟩,q3⟩:=e2
     subst q1
     subst q2
     subst hk
     have hj0:(0:Int)≤(j:Int):=by omega
     have hj1:(j:Int) < (lr.length:Int):=by omega
     have hj2:¬ (j:Int) < 0:=by omega
     have hj3:decide ((j:Int) < 0)=false:=decide_eq_false hj2
     by_cases hgt:lr.getD j 0 < lr.getD m 0
     ·have HN2:=Hid.intro (NextP.more h4 hbm hgt)
      generalize lr.getD j 0=y at hy hgt
      generalize lr.getD m 0=x at hx hgt
      clear hbm h4 h3 q3
      go_wp2_with fail
      go_quiet (fail)
      go_wp2
      go_roundw
      case rel=>exact ⟨m+1,nd+nq,m,by omega,by go_num,rfl,HN2,rfl⟩
      case measure=>simp [intOf];omega
     ·have HN2:=Hid.intro (NextP.less h2 h3 h4 hgt)
      generalize lr.getD j 0=y at hy hgt
      generalize lr.getD m 0=x at hx hgt
      clear hbm h4 h3 q3
      go_wp2_with fail
      go_quiet (fail)
      go_wp2
      go_roundw
      case rel=>exact ⟨m+1,nd+nq,j,by omega,by go_num,rfl,HN2,rfl⟩
      case measure=>simp [intOf];omega
  ·obtain rfl:m=lr.length:=by omega
   go_wp2
   go_ret
   exact ⟨k,rfl,HN.out,nd,rfl⟩

/-- the rows of l4Share: the weights, what each gets, what is left over of each, who has got one of the rest -/
structure Q4 (w W:World) (v5 v8 v9:Value) (gb:Nat) (u lo lr:List Int) (bl:List Bool):Prop where
 o5:W.ownsRow w.heap.size 3 1 v5 u.length (u.map (Value.int .i64))
 o8:W.ownsRow w.heap.size 3 1 v8 lo.length (lo.map (Value.int .i64))
 o9:W.ownsRow w.heap.size 3 1 v9 lr.length (lr.map (Value.int .i64))
 bo:BoolsAt W gb bl
 hb:w.heap.size≤gb
 n58:v5.ownBlock ≠ v8.ownBlock
 n59:v5.ownBlock ≠ v9.ownBlock
 n89:v8.ownBlock ≠ v9.ownBlock
 nb5:v5.ownBlock ≠ some gb
 nb8:v8.ownBlock ≠ some gb
 nb9:v9.ownBlock ≠ some gb
 below:Below w.heap.size w W
theorem BoolsAt.lt {w:World} {gb:Nat} {bl:List Bool} (h:BoolsAt w gb bl):gb < w.heap.size:=by
 obtain ⟨bs,h1,_⟩:=h
 exact (Array.getElem?_eq_some_iff.1 h1).1
theorem Q4.alloc {w W:World} {v5 v8 v9:Value} {gb:Nat} {u lo lr:List Int} {bl:List Bool} (h:Q4 w W v5 v8 v9 gb u lo lr bl) (o:Obj):Q4 w (W.alloc o) v5 v8 v9 gb u lo lr bl :=
 { h with o5:=h.o5.alloc o,o8:=h.o8.alloc o,o9:=h.o9.alloc o,bo:=h.bo.kept (Below.heap_alloc _ _ _ h.bo.lt),below:=h.below.alloc h.below.size o }
theorem Q4.drewN {w W:World} {v5 v8 v9:Value} {gb:Nat} {u lo lr:List Int} {bl:List Bool} (h:Q4 w W v5 v8 v9 gb u lo lr bl) (n:Nat):Q4 w (W.drewN n) v5 v8 v9 gb u lo lr bl :=
 { h with o5:=h.o5,o8:=h.o8,o9:=h.o9,bo:=h.bo.kept rfl,below:=k_drewN h.below n }
theorem own_some {w:World} {v:Value} {B n:Nat} {e:TypeId} {xs:List Value} (h:w.ownsRow B e 1 v n xs) (k:Nat) (hk:w.heap.size≤k):v.ownBlock ≠ some k:=fun e=>by have:=(h.lt k e).2;omega
theorem Q4.app8 {w W W':World} {v5 v8 v9 v':Value} {gb:Nat} {u lo lr:List Int} {bl:List Bool} (h:Q4 w W v5 v8 v9 gb u lo lr bl) {x:Int}
  (ho:W'.ownsRow w.heap.size 3 1 v' (lo.length+1) (lo.map (Value.int .i64) ++ [.int .i64 x])) (hg:W.grownBy W' v8.ownBlock) (hat:v'.ownBlock=v8.ownBlock∨v'.ownBlock=some W.heap.size):Q4 w W' v5 v' v9 gb u (lo ++ [x]) lr bl where
 o5:=h.o5.kept hg (.inr h.n58)
 o8:=by rw [List.length_append,List.map_append];exact ho
 o9:=h.o9.kept hg (.inr (Ne.symm h.n89))
 bo:=h.bo.kept (hg.block gb h.bo.lt (Ne.symm h.nb8))
 hb:=h.hb
 n58:=by rcases hat with e | e <;> rw [e];exact h.n58;exact own_some h.o5 _ (Nat.le_refl _)
 n59:=h.n59
 n89:=by rcases hat with e | e <;> rw [e];exact h.n89;exact (own_some h.o9 _ (Nat.le_refl _)).symm
 nb5:=h.nb5
 nb8:=by rcases hat with e | e <;> rw [e];exact h.nb8;exact fun e=>by have:=h.bo.lt;simp at e;omega
 nb9:=h.nb9
 below:=h.below.grown hg h.below.size (fun b hb=>(h.o8.lt b hb).1)
theorem Q4.app9 {w W W':World} {v5 v8 v9 v':Value} {gb:Nat} {u lo lr:List Int} {bl:List Bool} (h:Q4 w W v5 v8 v9 gb u lo lr bl) {x:Int}
  (ho:W'.ownsRow w.heap.size 3 1 v' (lr.length+1) (lr.map (Value.int .i64) ++ [.int .i64 x])) (hg:W.grownBy W' v9.ownBlock) (hat:v'.ownBlock=v9.ownBlock∨v'.ownBlock=some W.heap.size):Q4 w W' v5 v8 v' gb u lo (lr ++ [x]) bl where
 o5:=h.o5.kept hg (.inr h.n59)
 o8:=h.o8.kept hg (.inr h.n89)
 o9:=by rw [List.length_append,List.map_append];exact ho
 bo:=h.bo.kept (hg.block gb h.bo.lt (Ne.symm h.nb9))
 hb:=h.hb
 n58:=h.n58
 n59:=by rcases hat with e | e <;> rw [e];exact h.n59;exact own_some h.o5 _ (Nat.le_refl _)
 n89:=by rcases hat with e | e <;> rw [e];exact h.n89;exact own_some h.o8 _ (Nat.le_refl _)
 nb5:=h.nb5
 nb8:=h.nb8
 nb9:=by rcases hat with e | e <;> rw [e];exact h.nb9;exact fun e=>by have:=h.bo.lt;simp at e;omega
 below:=h.below.grown hg h.below.size (fun b hb=>(h.o9.lt b hb).1)
theorem grow_set (W:World) (p:Addr) (v:Value):W.grownBy (W.setCell p v) (some p.block) :=
 ⟨rfl,rfl,rfl,by simp [World.setCell],fun k _ hne=>Below.heap_setCell _ _ _ _ (fun e=>hne (by rw [e]))⟩
theorem Q4.set8 {w W:World} {v5 v9:Value} {g8 n c gb:Nat} {u lo lr:List Int} {bl:List Bool} (h:Q4 w W v5 (.slice (some ⟨g8,0,none⟩) n c) v9 gb u lo lr bl) (i:Nat) (hi:i < lo.length) (x:Int) :
  Q4 w (W.setCell ⟨g8,i,none⟩ (.int .i64 x)) v5 (.slice (some ⟨g8,0,none⟩) n c) v9 gb u (lo.set i x) lr bl where
 o5:=h.o5.kept (grow_set W ⟨g8,i,none⟩ (.int .i64 x)) (.inr h.n58)
 o8:=((RowI.of_owns h.o8).set hi x).owns
 o9:=h.o9.kept (grow_set W ⟨g8,i,none⟩ (.int .i64 x)) (.inr (Ne.symm h.n89))
 bo:=h.bo.kept ((grow_set W ⟨g8,i,none⟩ (.int .i64 x)).block gb h.bo.lt (Ne.symm h.nb8))
 hb:=h.hb
 n58:=h.n58
 n59:=h.n59
 n89:=h.n89
 nb5:=h.nb5
 nb8:=h.nb8
 nb9:=h.nb9
 below:=h.below.setCell (h.o8.lt g8 rfl).1 _
theorem Q4.setb {w W:World} {v5 v8 v9:Value} {gb:Nat} {u lo lr:List Int} {bl:List Bool} (h:Q4 w W v5 v8 v9 gb u lo lr bl) (i:Nat) (hi:i < bl.length) (x:Bool) :
  Q4 w (W.setCell ⟨gb,i,none⟩ (.bool x)) v5 v8 v9 gb u lo lr (bl.set i x) where
 o5:=h.o5.kept (grow_set W ⟨gb,i,none⟩ (.bool x)) (.inr h.nb5)
 o8:=h.o8.kept (grow_set W ⟨gb,i,none⟩ (.bool x)) (.inr h.nb8)
 o9:=h.o9.kept (grow_set W ⟨gb,i,none⟩ (.bool x)) (.inr h.nb9)
 bo:=h.bo.set i hi x
 hb:=h.hb
 n58:=h.n58
 n59:=h.n59
 n89:=h.n89
 nb5:=h.nb5
 nb8:=h.nb8
 nb9:=h.nb9
 below:=h.below.setCell h.hb _
def newBo (n:Nat):Array Value:=madeCells (Value.bool false).cells (n * 1)
theorem infoBo:(Tryz.prog.info? 4).map (fun i=>(i.zero,i.size,i.bytes))=some (some (Value.bool false),1,1):=by kernel_rfl
theorem makeBo (n:Nat) (hn:n≤1048576) (u:World):(Instr.makeSlice 144 (.int .i64 (n:Int)) (.int .i64 (n:Int))).run Tryz.prog u=.ok (.slice (some ⟨u.heap.size,0,none⟩) n n) (u.alloc (.cells (newBo n) 4)):=by
 obtain ⟨i0,hi,hz0,hz1,hz2⟩:=info_parts infoBo
 have h:=run_make (P:=Tryz.prog) u 144 4 i0 _ Tryz.underlying144 hi hz0 .i64 .i64 (n:Int) (n:Int) (by omega) (Int.le_refl _) (by rw [hz2];omega) (by omega)
 rw [hz1,Int.toNat_natCast] at h
 exact h
theorem bools_new (w:World) (n:Nat):BoolsAt (w.alloc (.cells (newBo n) 4)) w.heap.size (List.replicate n false):=by
 refine ⟨newBo n,newestB _ _,by rw [newBo,size_madeCells];simp,fun i hi=>?_⟩
 rw [List.length_replicate] at hi
 unfold newBo
 rw [Nat.mul_one,← Array.getElem?_toList,show (Value.bool false).cells=#[Value.bool false] from rfl,toList_madeCells_one]
 simp [List.getD,hi]
theorem Q4.start {w W:World} {g5 n c5:Nat} {u:List Int} (h5:W.ownsRow w.heap.size 3 1 (.slice (some ⟨g5,0,none⟩) n c5) u.length (u.map (Value.int .i64))) (hb:Below w.heap.size w W) (m:Nat) :
  Q4 w (((W.alloc (.cells #[] 3)).alloc (.cells #[] 3)).alloc (.cells (newBo m) 4)) (.slice (some ⟨g5,0,none⟩) n c5) (.slice (some ⟨W.heap.size,0,none⟩) 0 0) (.slice (some ⟨W.heap.size+1,0,none⟩) 0 0) (W.heap.size+2) u [] [] (List.replicate m false) where
 o5:=((h5.alloc _).alloc _).alloc _
 o8:=((World.ownsRow_made (base:=w.heap.size) (e:=3) (size:=1) W #[] 0 hb.size (Nat.zero_le _) rfl).alloc _).alloc _
 o9:=by
  have:=World.ownsRow_made (base:=w.heap.size) (e:=3) (size:=1) (W.alloc (.cells #[] 3)) #[] 0 (by have:=hb.size;simp;omega) (Nat.zero_le _) rfl
  have e:(W.alloc (.cells #[] 3)).heap.size=W.heap.size+1:=by simp
  rw [e] at this
  exact this.alloc _
 bo:=by
  have:=bools_new ((W.alloc (.cells #[] 3)).alloc (.cells #[] 3)) m
  have e:((W.alloc (.cells #[] 3)).alloc (.cells #[] 3)).heap.size=W.heap.size+2:=by simp
  rw [e] at this
  exact this
 hb:=by have:=hb.size;omega
 n58:=own_some h5 _ (Nat.le_refl _)
 n59:=own_some h5 (W.heap.size+1) (by omega)
 n89:=fun e=>by simp [Value.ownBlock] at e
 nb5:=own_some h5 (W.heap.size+2) (by omega)
 nb8:=fun e=>by simp [Value.ownBlock] at e
 nb9:=fun e=>by simp [Value.ownBlock] at e
 below:=k_alloc (k_alloc (k_alloc hb _) _) _
end Go.Proofs.YtcbibdhlkdcmiafGreat
namespace Go.Proofs.YtcbibdhlkdcmiafGreat
open Go.RowKit

theorem Q4.cell5 {w W:World} {v8 v9:Value} {g5 n c5 gb:Nat} {u lo lr:List Int} {bl:List Bool} (h:Q4 w W (.slice (some ⟨g5,0,none⟩) n c5) v8 v9 gb u lo lr bl) {k:Nat} (hk:k < u.length):W.cell? ⟨g5,k,none⟩=some (.int .i64 (u.getD k 0))∧g5 < W.heap.size:=by
 obtain ⟨gq,capq,eq1,_,_,hg,_,_,hy,_⟩:=(RowI.of_owns h.o5).get hk
 simp only [Value.slice.injEq,Option.some.injEq,Addr.mk.injEq,and_true] at eq1
 obtain ⟨rfl,_⟩:=eq1
 exact ⟨hy,hg⟩
theorem all_of_get {l:List Int} (h:∀ i,i < l.length→0≤l.getD i 0∧l.getD i 0≤100000):l.all wtB=true:=by
 rw [List.all_eq_true]
 intro x hx
 obtain ⟨i,hi,rfl⟩:=List.getElem_of_mem hx
 have:=h i hi
 simp only [wtB,decide_eq_true_eq]
 simpa [List.getD,hi] using this
theorem ones_set {l:List Int} {k:Nat} (h:k < l.length):(List.replicate k (1:Int) ++ l.drop k).set k 1=List.replicate (k+1) 1 ++ l.drop (k+1):=by
 rw [List.set_append_right _ _ (by simp)]
 simp only [List.length_replicate,Nat.sub_self]
 rw [List.drop_eq_getElem_cons h,List.set_cons_zero,List.replicate_succ',List.append_assoc]
 rfl
theorem infoI4:(Tryz.prog.info? 3).map (fun i=>(i.zero,i.size,i.bytes))=some (some (Value.int .i64 0),1,8):=by kernel_rfl

set_option maxRecDepth 100000 in
set_option maxHeartbeats 8000000 in
theorem l4Share_any (t:Int) (v:Value) (l:List Int) (hok:shrOkB t l=true) (h0:0 < l.length) (w:World) (h:IntsAt w v l) :
  Calls Tryz.prog 83 #[.int .i64 t,v] w fun e w'=>∃ x,e=.returned x∧RowI w' w.heap.size w'.heap.size x (shareL t l)∧Below w.heap.size w w':=by
 obtain ⟨i0,hi0,hz0,hz1,hz2⟩:=info_parts infoI4
 obtain ⟨b,off,cap,rfl,hc1,hc2,hbw,_⟩:=h.get h0
 have H:=Hid.intro h
 obtain ⟨ht,hl,hw⟩:=shrOk_parts hok
 have hnil:l ≠ []:=List.length_pos_iff.1 h0
 have HF:=Hid.intro (shareL_some hok hnil)
 have hokU:=shrOk_wts hok
 have hpU:=wts_pos hw h0
 have hmk:=makeBo l.length (by omega)
 have HWL:=Hid.intro hw
 have HLN:=Hid.intro (wts_len l)
 have HWU:=Hid.intro (wts_wt hw)
 have HZu:Hid (l.sum=0→wts l=List.replicate l.length 1):=fun hz=>by rw [wts,if_pos hz]
 have HZn:Hid (l.sum ≠ 0→wts l=l):=fun hz=>by rw [wts,if_neg hz]
 have HBS:=Hid.intro (fun k hk=>base_small hokU hpU (i:=k) hk)
 have HBSU:=Hid.intro (base_sum hokU hpU)
 have HLE:=Hid.intro (left_eq hokU hpU)
 have HUB:Hid (∀ k,k≤(wts l).length→0≤dueTo t (wts l) k∧dueTo t (wts l) k≤t):=fun k hk=>⟨(dueTo_wide k).1,Int.le_trans (dueTo_mono hk) (dueTo_bounds hokU hpU).1⟩
 have hsb:=sum_bound (wts_wt hw)
 rw [wts_len] at hsb
 generalize wts l=u at HF hpU HLN HWU HZu HZn HBS HBSU HLE HUB hsb
 obtain ⟨s,hs⟩:∃ s,s=u.sum:=⟨_,rfl⟩
 rw [← hs] at hpU hsb
 have HSU:Hid (u.sum=s):=hs.symm
 clear hokU hw hnil h hs hok
 go_enter Tryz.func83,Tryz.ntmps83
 go_wp2_with (at_builtin;refine wpList_append_own_at _ rfl _ _ 29 rfl w.heap.size 3 i0 (.int .i64 0) 1 8 Tryz.underlying29 hi0 hz0 hz1 hz2 rfl (by decide) _ 0 [] rfl (World.ownsRow_made (base:=w.heap.size) (e:=3) (size:=1) w #[] 0 (Nat.le_refl _) (Nat.zero_le _) rfl) ⟨b,off,none⟩ l.length cap (l.map (Value.int .i64)) rfl ?e1 ?e2 ?e3 ?e4 ?e5 ?e6 ?_)
 case e1=>simp
 case e2 =>
  intro j x hx
  rw [List.getElem?_map] at hx
  obtain ⟨y,hy,rfl⟩:=Option.map_eq_some_iff.1 hx
  have hj:=(List.getElem?_eq_some_iff.1 hy).1
  rw [Go.WideShapes.add_plain]
  obtain ⟨bq,oq,cq,eq1,_,_,_,hcq⟩:=H.out.get hj
  simp only [Value.slice.injEq,Option.some.injEq,Addr.mk.injEq,and_true,true_and] at eq1
  obtain ⟨⟨rfl,rfl⟩,_⟩:=eq1
  rw [((k_alloc (Below.refl w.heap.size w) (.cells #[] 3)).cell (p:=⟨b,off+j,none⟩) hbw),hcq]
  simp [List.getD,hy]
 case e3=>intro x hx;obtain ⟨y,_,rfl⟩:=List.mem_map.1 hx;rfl
 case e4=>unfold maxLen;omega
 case e5=>omega
 case e6=>simp
 intro v5 w5 ho5 hg5 _ _
 have O5:Hid (w5.ownsRow w.heap.size 3 1 v5 l.length (l.map (Value.int .i64))):=Hid.intro (by simpa using ho5)
 have K5:Hid (Below w.heap.size w w5):=(k_alloc (Below.refl w.heap.size w) (.cells #[] 3)).grown hg5 (by simp) (fun q hq=>by
  have:q=w.heap.size:=by simpa [Value.ownBlock] using hq.symm
  omega)
 obtain ⟨g5,c5,rfl⟩:=Joins.ownsRow_form O5.out (by omega)
 clear ho5 hg5
 go_wp2_with fail
 refine (specl1Sum_any _ l (by omega) HWL.out _ (RowI.of_owns O5.out).at).mono ?_
 rintro e wx ⟨rfl,ex⟩
 cases ex
 by_cases hz:l.sum=0
 ·have huo:=HZu.out hz
  rw [hz]
  have HUO:=Hid.intro huo
  clear huo hz
  go_wp2_with fail
  go_loopw [6] (fun s6 W=>∃ k:Nat,k≤l.length∧s6=.int .i64 k∧Hid (RowI W w.heap.size W.heap.size (.slice (some ⟨g5,0,none⟩) l.length c5) (List.replicate k 1 ++ l.drop k))∧Hid (Below w.heap.size w W)) (fun s6 _=>l.length - (intOf s6).toNat)
  case atStart=>exact ⟨0,Nat.zero_le _,rfl,RowI.of_owns O5.out,K5⟩
  case round =>
   clear O5 K5
   obtain ⟨k,hk,rfl,HR,HB⟩:=hrel
   have hll:(List.replicate k (1:Int) ++ l.drop k).length=l.length:=by simp;omega
   by_cases hlt:k < l.length
   ·obtain ⟨gq,capq,eq1,hgB,_,hgq,_,_,hy,hfy⟩:=HR.out.get (i:=k) (by omega)
    simp only [Value.slice.injEq,Option.some.injEq,Addr.mk.injEq,and_true] at eq1
    obtain ⟨q1,q2⟩:=eq1
    clear q2
    subst q1
    have HN:Hid ((List.replicate k (1:Int) ++ l.drop k).set k 1=List.replicate (k+1) 1 ++ l.drop (k+1)):=ones_set hlt
    have HR2:=Hid.intro (HR.out.set (i:=k) (by omega) 1)
    rw [HN.out] at HR2
    generalize (List.replicate k (1:Int) ++ l.drop k).getD k 0=y at hy
    clear hll HN
    go_wp2
    go_roundw
    case rel=>exact ⟨k+1,by omega,by go_num,HR2.out.base (Nat.le_refl _) (by rw [sizeSet];exact Nat.le_refl _),k_set HB.out hgB _⟩
    case measure=>simp [intOf];omega
   ·obtain rfl:k=l.length:=by omega
    have O5:Hid (wr.ownsRow w.heap.size 3 1 (.slice (some ⟨g5,0,none⟩) l.length c5) u.length (u.map (Value.int .i64))):=by
     have:=HR.out
     rw [List.drop_length,List.append_nil,← HUO.out] at this
     exact this.owns
    have K5:=HB
    clear HR HB HUO hll
    obtain ⟨W0,hW⟩:∃ W0,W0=wr:=⟨_,rfl⟩
    rw [← hW] at O5 K5 ⊢
    clear hW
    go_wp2_with fail
    have CS0:=specl1Sum_any _ u (by rw [HLN.out];omega) HWU.out _ (RowI.of_owns O5.out).at
    rw [HSU.out] at CS0
    refine CS0.mono ?_
    clear CS0
    rintro e wx ⟨rfl,ex⟩
    cases ex
    go_wp2_with fail
    clear hmk
    have Q0:=Hid.intro (Q4.start O5.out K5.out l.length)
    have hW0:=K5.out.size
    clear O5 K5
    go_loopw [8,9,11] (fun s8 s9 s11 W=>∃ k:Nat,k≤l.length∧s11=.int .i64 k∧Hid (Q4 w W (.slice (some ⟨g5,0,none⟩) l.length c5) s8 s9 (W0.heap.size+2) u ((baseL t u).take k) ((remL t u).take k) (List.replicate l.length false))) (fun _ _ s11 _=>l.length - (intOf s11).toNat)
    case atStart=>exact ⟨0,Nat.zero_le _,rfl,Q0⟩
    case round =>
     clear Q0
     obtain ⟨k,hk,rfl,HQ⟩:=hrel
     have l8:((baseL t u).take k).length=k:=by rw [List.length_take,baseL_len,HLN.out];omega
     have l9:((remL t u).take k).length=k:=by rw [List.length_take,remL_len,HLN.out];omega
     obtain ⟨a8,c8,f8⟩:=(RowI.of_owns HQ.out.o8).form
     obtain ⟨a9,c9,f9⟩:=(RowI.of_owns HQ.out.o9).form
     rw [l8] at f8
     rw [l9] at f9
     subst f8
     subst f9
     have HL8:=Hid.intro l8
     have HL9:=Hid.intro l9
     clear l8 l9
     by_cases hlt:k < l.length
     ·have hku:k < u.length:=by rw [HLN.out];exact hlt
      have hx0:=wt_get HWU.out hku
      have hm:=mul_small ht hx0
      have N8:=Hid.intro (take_next (l:=baseL t u) (k:=k) (by rw [baseL_len];exact hku))
      have N9:=Hid.intro (take_next (l:=remL t u) (k:=k) (by rw [remL_len];exact hku))
      rw [baseL_get hku] at N8
      rw [remL_get hku] at N9
      have hx:=(HQ.out.cell5 hku).1
      have h5b:=(HQ.out.cell5 hku).2
      have hmem:=HQ.out.below.size
      obtain ⟨x,hxe⟩:∃ x,x=u.getD k 0:=⟨_,rfl⟩
      rw [← hxe] at hx hx0 hm N8 N9
      have HX:=Hid.intro hxe
      clear hxe
      have hdv:=Int.ediv_nonneg hm.1 (show (0:Int)≤s by omega)
      have hdw:=Int.le_trans (Int.ediv_le_self s hm.1) hm.2
      have hrm:=rem_small (a:=t * x) (s:=s) hpU
      rw [HSU.out] at N8 N9
      go_wp2_with (at_builtin;refine wpList_append_own_at _ rfl _ _ 29 rfl w.heap.size 3 i0 (.int .i64 0) 1 8 Tryz.underlying29 hi0 hz0 hz1 hz2 rfl (by decide) _ k _ rfl (by have:=(HQ.out.alloc (.cells #[.int .i64 (t * x / s)] 3)).o8;rw [HL8.out] at this;exact this) ⟨wr.heap.size,0,none⟩ 1 1 [.int .i64 (t * x / s)] rfl rfl (cell_one_new _ _ _) ?c2 ?c3 ?c4 ?c5 ?_)
      case c2=>intro v hv;simp at hv;subst hv;rfl
      case c3=>unfold maxLen;omega
      case c4=>omega
      case c5=>simp;omega
      intro v8 w8 ho8 hg8 _ hat8
      have HQ8:=Hid.intro ((HQ.out.alloc (.cells #[.int .i64 (t * x / s)] 3)).app8 (by rw [HL8.out,List.map_take];exact ho8) hg8 (by simpa using hat8))
      rw [← N8.out] at HQ8
      have l8:((baseL t u).take (k+1)).length=k+1:=by rw [List.length_take,baseL_len,HLN.out];omega
      obtain ⟨a8',c8',f8⟩:=(RowI.of_owns HQ8.out.o8).form
      rw [l8] at f8
      subst f8
      have hx8:=(HQ8.out.cell5 hku).1
      have h5b8:=(HQ8.out.cell5 hku).2
      rw [← HX.out] at hx8
      have hmem8:=HQ8.out.below.size
      clear ho8 hg8 hat8 HQ hx l8 hmem h5b
      go_wp2_with (at_builtin;refine wpList_append_own_at _ rfl _ _ 29 rfl w.heap.size 3 i0 (.int .i64 0) 1 8 Tryz.underlying29 hi0 hz0 hz1 hz2 rfl (by decide) _ k _ rfl (by have:=(HQ8.out.alloc (.cells #[.int .i64 (t * x % s)] 3)).o9;rw [HL9.out] at this;exact this) ⟨w8.heap.size,0,none⟩ 1 1 [.int .i64 (t * x % s)] rfl rfl (cell_one_new _ _ _) ?d2 ?d3 ?d4 ?d5 ?_)
      case d2=>intro v hv;simp at hv;subst hv;rfl
      case d3=>unfold maxLen;omega
      case d4=>omega
      case d5=>simp;omega
      intro v9 w9 ho9 hg9 _ hat9
      have HQ9:=Hid.intro ((HQ8.out.alloc (.cells #[.int .i64 (t * x % s)] 3)).app9 (by rw [HL9.out,List.map_take];exact ho9) hg9 (by simpa using hat9))
      rw [← N9.out] at HQ9
      have l9:((remL t u).take (k+1)).length=k+1:=by rw [List.length_take,remL_len,HLN.out];omega
      obtain ⟨a9',c9',f9⟩:=(RowI.of_owns HQ9.out.o9).form
      rw [l9] at f9
      subst f9
      clear ho9 hg9 hat9 HQ8 hx8 l9 hmem8 h5b8
      go_wp2
      go_roundw
      case rel=>exact ⟨k+1,by omega,by go_num,HQ9⟩
      case measure=>simp [intOf];omega
     ·obtain rfl:k=l.length:=by omega
      have e8:(baseL t u).take l.length=baseL t u:=by rw [← HLN.out,← baseL_len t u,List.take_length]
      have e9:(remL t u).take l.length=remL t u:=by rw [← HLN.out,← remL_len t u,List.take_length]
      rw [e8,e9] at HQ
      clear HL8 HL9 e8 e9
      have hb8:(baseL t u).length=l.length:=by rw [baseL_len,HLN.out]
      have hr9:(remL t u).length=l.length:=by rw [remL_len,HLN.out]
      have HB8:=Hid.intro hb8
      have HR9:=Hid.intro hr9
      have HSB:Hid ((baseL t u).sum=dueTo t u l.length):=by
       have:=HBSU.out u.length (Nat.le_refl _)
       rw [← baseL_len t u,sumTo_all,baseL_len,HLN.out] at this
       exact this
      have hwb:(baseL t u).all wtB=true:=all_of_get (fun i hi=>HBS.out i (by rw [baseL_len] at hi;exact hi))
      obtain ⟨g8,hg8⟩:∃ g8,a8=some ⟨g8,0,none⟩:=by
       obtain ⟨gq,capq,eq1,_⟩:=(RowI.of_owns HQ.out.o8).get (i:=0) (by omega)
       simp only [Value.slice.injEq] at eq1
       exact ⟨gq,eq1.1⟩
      subst hg8
      go_wp2_with fail
      have hI8:=(RowI.of_owns HQ.out.o8).at
      have CS:=specl1Sum_any (.slice (some ⟨g8,0,none⟩) l.length c8) (baseL t u) (by omega) hwb wr hI8
      rw [HSB.out] at CS
      refine CS.mono ?_
      rintro e wx ⟨rfl,ex⟩
      cases ex
      clear hI8 CS hwb
      obtain ⟨lf,hlf⟩:∃ lf,lf=leftN t u:=⟨_,rfl⟩
      have el:t - dueTo t u l.length=(lf:Int):=by rw [hlf,HLE.out.1,HLN.out]
      have hlf1:lf < l.length:=by rw [hlf,← HLN.out];exact HLE.out.2
      have HLF:=Hid.intro hlf
      have hdu:=HUB.out l.length (by rw [HLN.out];exact Nat.le_refl _)
      clear hlf hb8 hr9
      have HQb:Hid (Q4 w wr (.slice (some ⟨g5,0,none⟩) l.length c5) (.slice (some ⟨g8,0,none⟩) l.length c8) (.slice a9 l.length c9) (W0.heap.size+2) u (bumps (baseL t u) (srtL t u) 0) (remL t u) (List.replicate l.length false)):=HQ.out
      clear HQ
      go_wp2_with fail
      go_loopw [12] (fun s12 W=>∃ (j:Nat) (bl:List Bool),j≤lf∧s12=.int .i64 ((lf:Int) - (j:Int))∧bl.length=l.length∧Hid (GotP t u bl j)∧Hid (Q4 w W (.slice (some ⟨g5,0,none⟩) l.length c5) (.slice (some ⟨g8,0,none⟩) l.length c8) (.slice a9 l.length c9) (W0.heap.size+2) u (bumps (baseL t u) (srtL t u) j) (remL t u) bl)) (fun s12 _=>(intOf s12).toNat)
      case atStart=>exact ⟨0,List.replicate l.length false,Nat.zero_le _,by first | simp | (rw [el];simp),by simp,got_zero t u l.length,HQb⟩
      case round =>
       clear HQb
       obtain ⟨j,bl,hj,rfl,hbl,HGo,HQ⟩:=hrel
       by_cases hlt:j < lf
       ·have hltz:(0:Int) < (lf:Int) - (j:Int):=by omega
        have hlz:(0:Int) < (l.length:Int):=by omega
        have hjs:j < (srtL t u).length:=by rw [srtL_len,HLN.out];omega
        have HNx:=l4Next_any (.slice a9 l.length c9) (remL t u) (W0.heap.size+2) l.length bl (by rw [HR9.out];exact hbl) wr (RowI.of_owns HQ.out.o9).at HQ.out.bo
        rw [HR9.out] at HNx
        go_wp2_with fail
        refine HNx.mono ?_
        rintro e w4 ⟨kk,rfl,hNP,q4,hw4⟩
        rw [← HLN.out] at hNP
        obtain ⟨i,hi,hsi,hki,hbi⟩:=next_is hjs HGo.out hNP
        subst hki
        have hil:i < l.length:=by rw [← HLN.out];exact hi
        have HQ4:=HQ.out.drewN q4
        rw [← hw4] at HQ4
        have hbb:=bumps_bound (B:=100000) (s:=srtL t u) (fun q hq=>HBS.out q (by rw [baseL_len] at hq;exact hq)) j (by omega) i (by rw [baseL_len];exact hi)
        have hbu:(bumps (baseL t u) (srtL t u) j).length=l.length:=by rw [bumps_len,HB8.out]
        obtain ⟨gq,capq,eq1,_,_,hgq,_,_,hy,hfy⟩:=(RowI.of_owns HQ4.o8).get (i:=i) (by omega)
        simp only [Value.slice.injEq,Option.some.injEq,Addr.mk.injEq,and_true] at eq1
        obtain ⟨q1,q2⟩:=eq1
        clear q2
        subst q1
        obtain ⟨hgo,hgf⟩:=HQ4.bo.get (i:=i) (by omega)
        have hgb:=HQ4.bo.lt
        have hne8:g8 ≠ W0.heap.size+2:=fun e=>HQ4.nb8 (by rw [e];rfl)
        have HN:=Hid.intro (bumps_succ (g:=baseL t u) hjs)
        rw [hsi] at HN
        have HGo2:=Hid.intro (got_next (by rw [hbl,HLN.out]) hjs HGo.out hsi)
        have HQ5:=Hid.intro ((HQ4.setb i (by omega) true).set8 i (by omega) ((bumps (baseL t u) (srtL t u) j).getD i 0+1))
        have HN2:Hid (bumps (baseL t u) (srtL t u) (j+1)=(bumps (baseL t u) (srtL t u) j).set i ((bumps (baseL t u) (srtL t u) j).getD i 0+1)):=HN.out
        rw [← HN2.out] at HQ5
        generalize (bumps (baseL t u) (srtL t u) j).getD i 0=z at hy hbb HQ5
        generalize bl.getD i false=zb at hgo hbi
        have hi0':(0:Int)≤(i:Int):=by omega
        have hi1':(i:Int) < (l.length:Int):=by omega
        clear hNP hw4 HQ4 HN HN2 HNx hsi hjs hbu HQ HGo
        go_wp2
        go_roundw
        case rel=>exact ⟨j+1,bl.set i true,by omega,by congr 1;omega,by simp [hbl],HGo2,HQ5⟩
        case measure=>simp [intOf];omega
       ·obtain rfl:j=lf:=by omega
        have hz:¬ (0:Int) < (j:Int) - (j:Int):=by omega
        have HE:Hid (shareL t l=bumps (baseL t u) (srtL t u) j):=by rw [HLF.out];exact HF.out
        go_wp2
        go_ret
        exact ⟨_,rfl,by rw [HE.out];exact RowI.of_owns HQ.out.o8,HQ.out.below⟩
 ·have huo:=HZn.out hz
  have hzb:(l.sum == 0)=false:=by simpa using hz
  have O5':Hid (w5.ownsRow w.heap.size 3 1 (.slice (some ⟨g5,0,none⟩) l.length c5) u.length (u.map (Value.int .i64))):=by rw [huo];exact O5.out
  clear O5 huo
  have O5:=O5'
  clear O5'
  generalize l.sum=sl at hzb hz
  obtain ⟨W0,hW⟩:∃ W0,W0=w5:=⟨_,rfl⟩
  rw [← hW] at O5 K5 ⊢
  clear hW
  go_wp2_with fail
  have CS0:=specl1Sum_any _ u (by rw [HLN.out];omega) HWU.out _ (RowI.of_owns O5.out).at
  rw [HSU.out] at CS0
  refine CS0.mono ?_
  clear CS0
  rintro e wx ⟨rfl,ex⟩
  cases ex
  go_wp2_with fail
  clear hmk
  have Q0:=Hid.intro (Q4.start O5.out K5.out l.length)
  have hW0:=K5.out.size
  clear O5 K5
  go_loopw [8,9,11] (fun s8 s9 s11 W=>∃ k:Nat,k≤l.length∧s11=.int .i64 k∧Hid (Q4 w W (.slice (some ⟨g5,0,none⟩) l.length c5) s8 s9 (W0.heap.size+2) u ((baseL t u).take k) ((remL t u).take k) (List.replicate l.length false))) (fun _ _ s11 _=>l.length - (intOf s11).toNat)
  case atStart=>exact ⟨0,Nat.zero_le _,rfl,Q0⟩
  case round =>
   clear Q0
   obtain ⟨k,hk,rfl,HQ⟩:=hrel
   have l8:((baseL t u).take k).length=k:=by rw [List.length_take,baseL_len,HLN.out];omega
   have l9:((remL t u).take k).length=k:=by rw [List.length_take,remL_len,HLN.out];omega
   obtain ⟨a8,c8,f8⟩:=(RowI.of_owns HQ.out.o8).form
   obtain ⟨a9,c9,f9⟩:=(RowI.of_owns HQ.out.o9).form
   rw [l8] at f8
   rw [l9] at f9
   subst f8
   subst f9
   have HL8:=Hid.intro l8
   have HL9:=Hid.intro l9
   clear l8 l9
   by_cases hlt:k < l.length
   ·have hku:k < u.length:=by rw [HLN.out];exact hlt
    have hx0:=wt_get HWU.out hku
    have hm:=mul_small ht hx0
    have N8:=Hid.intro (take_next (l:=baseL t u) (k:=k) (by rw [baseL_len];exact hku))
    have N9:=Hid.intro (take_next (l:=remL t u) (k:=k) (by rw [remL_len];exact hku))
    rw [baseL_get hku] at N8
    rw [remL_get hku] at N9
    have hx:=(HQ.out.cell5 hku).1
    have h5b:=(HQ.out.cell5 hku).2
    have hmem:=HQ.out.below.size
    obtain ⟨x,hxe⟩:∃ x,x=u.getD k 0:=⟨_,rfl⟩
    rw [← hxe] at hx hx0 hm N8 N9
    have HX:=Hid.intro hxe
    clear hxe
    have hdv:=Int.ediv_nonneg hm.1 (show (0:Int)≤s by omega)
    have hdw:=Int.le_trans (Int.ediv_le_self s hm.1) hm.2
    have hrm:=rem_small (a:=t * x) (s:=s) hpU
    rw [HSU.out] at N8 N9
    go_wp2_with (at_builtin;refine wpList_append_own_at _ rfl _ _ 29 rfl w.heap.size 3 i0 (.int .i64 0) 1 8 Tryz.underlying29 hi0 hz0 hz1 hz2 rfl (by decide) _ k _ rfl (by have:=(HQ.out.alloc (.cells #[.int .i64 (t * x / s)] 3)).o8;rw [HL8.out] at this;exact this) ⟨wr.heap.size,0,none⟩ 1 1 [.int .i64 (t * x / s)] rfl rfl (cell_one_new _ _ _) ?c2 ?c3 ?c4 ?c5 ?_)
    case c2=>intro v hv;simp at hv;subst hv;rfl
    case c3=>unfold maxLen;omega
    case c4=>omega
    case c5=>simp;omega
    intro v8 w8 ho8 hg8 _ hat8
    have HQ8:=Hid.intro ((HQ.out.alloc (.cells #[.int .i64 (t * x / s)] 3)).app8 (by rw [HL8.out,List.map_take];exact ho8) hg8 (by simpa using hat8))
    rw [← N8.out] at HQ8
    have l8:((baseL t u).take (k+1)).length=k+1:=by rw [List.length_take,baseL_len,HLN.out];omega
    obtain ⟨a8',c8',f8⟩:=(RowI.of_owns HQ8.out.o8).form
    rw [l8] at f8
    subst f8
    have hx8:=(HQ8.out.cell5 hku).1
    have h5b8:=(HQ8.out.cell5 hku).2
    rw [← HX.out] at hx8
    have hmem8:=HQ8.out.below.size
    clear ho8 hg8 hat8 HQ hx l8 hmem h5b
    go_wp2_with (at_builtin;refine wpList_append_own_at _ rfl _ _ 29 rfl w.heap.size 3 i0 (.int .i64 0) 1 8 Tryz.underlying29 hi0 hz0 hz1 hz2 rfl (by decide) _ k _ rfl (by have:=(HQ8.out.alloc (.cells #[.int .i64 (t * x % s)] 3)).o9;rw [HL9.out] at this;exact this) ⟨w8.heap.size,0,none⟩ 1 1 [.int .i64 (t * x % s)] rfl rfl (cell_one_new _ _ _) ?d2 ?d3 ?d4 ?d5 ?_)
    case d2=>intro v hv;simp at hv;subst hv;rfl
    case d3=>unfold maxLen;omega
    case d4=>omega
    case d5=>simp;omega
    intro v9 w9 ho9 hg9 _ hat9
    have HQ9:=Hid.intro ((HQ8.out.alloc (.cells #[.int .i64 (t * x % s)] 3)).app9 (by rw [HL9.out,List.map_take];exact ho9) hg9 (by simpa using hat9))
    rw [← N9.out] at HQ9
    have l9:((remL t u).take (k+1)).length=k+1:=by rw [List.length_take,remL_len,HLN.out];omega
    obtain ⟨a9',c9',f9⟩:=(RowI.of_owns HQ9.out.o9).form
    rw [l9] at f9
    subst f9
    clear ho9 hg9 hat9 HQ8 hx8 l9 hmem8 h5b8
    go_wp2
    go_roundw
    case rel=>exact ⟨k+1,by omega,by go_num,HQ9⟩
    case measure=>simp [intOf];omega
   ·obtain rfl:k=l.length:=by omega
    have e8:(baseL t u).take l.length=baseL t u:=by rw [← HLN.out,← baseL_len t u,List.take_length]
    have e9:(remL t u).take l.length=remL t u:=by rw [← HLN.out,← remL_len t u,List.take_length]
    rw [e8,e9] at HQ
    clear HL8 HL9 e8 e9
    have hb8:(baseL t u).length=l.length:=by rw [baseL_len,HLN.out]
    have hr9:(remL t u).length=l.length:=by rw [remL_len,HLN.out]
    have HB8:=Hid.intro hb8
    have HR9:=Hid.intro hr9
    have HSB:Hid ((baseL t u).sum=dueTo t u l.length):=by
     have:=HBSU.out u.length (Nat.le_refl _)
     rw [← baseL_len t u,sumTo_all,baseL_len,HLN.out] at this
     exact this
    have hwb:(baseL t u).all wtB=true:=all_of_get (fun i hi=>HBS.out i (by rw [baseL_len] at hi;exact hi))
    obtain ⟨g8,hg8⟩:∃ g8,a8=some ⟨g8,0,none⟩:=by
     obtain ⟨gq,capq,eq1,_⟩:=(RowI.of_owns HQ.out.o8).get (i:=0) (by omega)
     simp only [Value.slice.injEq] at eq1
     exact ⟨gq,eq1.1⟩
    subst hg8
    go_wp2_with fail
    have hI8:=(RowI.of_owns HQ.out.o8).at
    have CS:=specl1Sum_any (.slice (some ⟨g8,0,none⟩) l.length c8) (baseL t u) (by omega) hwb wr hI8
    rw [HSB.out] at CS
    refine CS.mono ?_
    rintro e wx ⟨rfl,ex⟩
    cases ex
    clear hI8 CS hwb
    obtain ⟨lf,hlf⟩:∃ lf,lf=leftN t u:=⟨_,rfl⟩
    have el:t - dueTo t u l.length=(lf:Int):=by rw [hlf,HLE.out.1,HLN.out]
    have hlf1:lf < l.length:=by rw [hlf,← HLN.out];exact HLE.out.2
    have HLF:=Hid.intro hlf
    have hdu:=HUB.out l.length (by rw [HLN.out];exact Nat.le_refl _)
    clear hlf hb8 hr9
    have HQb:Hid (Q4 w wr (.slice (some ⟨g5,0,none⟩) l.length c5) (.slice (some ⟨g8,0,none⟩) l.length c8) (.slice a9 l.length c9) (W0.heap.size+2) u (bumps (baseL t u) (srtL t u) 0) (remL t u) (List.replicate l.length false)):=HQ.out
    clear HQ
    go_wp2_with fail
    go_loopw [12] (fun s12 W=>∃ (j:Nat) (bl:List Bool),j≤lf∧s12=.int .i64 ((lf:Int) - (j:Int))∧bl.length=l.length∧Hid (GotP t u bl j)∧Hid (Q4 w W (.slice (some ⟨g5,0,none⟩) l.length c5) (.slice (some ⟨g8,0,none⟩) l.length c8) (.slice a9 l.length c9) (W0.heap.size+2) u (bumps (baseL t u) (srtL t u) j) (remL t u) bl)) (fun s12 _=>(intOf s12).toNat)
    case atStart=>exact ⟨0,List.replicate l.length false,Nat.zero_le _,by first | simp | (rw [el];simp),by simp,got_zero t u l.length,HQb⟩
    case round =>
     clear HQb
     obtain ⟨j,bl,hj,rfl,hbl,HGo,HQ⟩:=hrel
     by_cases hlt:j < lf
     ·have hltz:(0:Int) < (lf:Int) - (j:Int):=by omega
      have hlz:(0:Int) < (l.length:Int):=by omega
      have hjs:j < (srtL t u).length:=by rw [srtL_len,HLN.out];omega
      have HNx:=l4Next_any (.slice a9 l.length c9) (remL t u) (W0.heap.size+2) l.length bl (by rw [HR9.out];exact hbl) wr (RowI.of_owns HQ.out.o9).at HQ.out.bo
      rw [HR9.out] at HNx
      go_wp2_with fail
      refine HNx.mono ?_
      rintro e w4 ⟨kk,rfl,hNP,q4,hw4⟩
      rw [← HLN.out] at hNP
      obtain ⟨i,hi,hsi,hki,hbi⟩:=next_is hjs HGo.out hNP
      subst hki
      have hil:i < l.length:=by rw [← HLN.out];exact hi
      have HQ4:=HQ.out.drewN q4
      rw [← hw4] at HQ4
      have hbb:=bumps_bound (B:=100000) (s:=srtL t u) (fun q hq=>HBS.out q (by rw [baseL_len] at hq;exact hq)) j (by omega) i (by rw [baseL_len];exact hi)
      have hbu:(bumps (baseL t u) (srtL t u) j).length=l.length:=by rw [bumps_len,HB8.out]
      obtain ⟨gq,capq,eq1,_,_,hgq,_,_,hy,hfy⟩:=(RowI.of_owns HQ4.o8).get (i:=i) (by omega)
      simp only [Value.slice.injEq,Option.some.injEq,Addr.mk.injEq,and_true] at eq1
      obtain ⟨q1,q2⟩:=eq1
      clear q2
      subst q1
      obtain ⟨hgo,hgf⟩:=HQ4.bo.get (i:=i) (by omega)
      have hgb:=HQ4.bo.lt
      have hne8:g8 ≠ W0.heap.size+2:=fun e=>HQ4.nb8 (by rw [e];rfl)
      have HN:=Hid.intro (bumps_succ (g:=baseL t u) hjs)
      rw [hsi] at HN
      have HGo2:=Hid.intro (got_next (by rw [hbl,HLN.out]) hjs HGo.out hsi)
      have HQ5:=Hid.intro ((HQ4.setb i (by omega) true).set8 i (by omega) ((bumps (baseL t u) (srtL t u) j).getD i 0+1))
      have HN2:Hid (bumps (baseL t u) (srtL t u) (j+1)=(bumps (baseL t u) (srtL t u) j).set i ((bumps (baseL t u) (srtL t u) j).getD i 0+1)):=HN.out
      rw [← HN2.out] at HQ5
      generalize (bumps (baseL t u) (srtL t u) j).getD i 0=z at hy hbb HQ5
      generalize bl.getD i false=zb at hgo hbi
      have hi0':(0:Int)≤(i:Int):=by omega
      have hi1':(i:Int) < (l.length:Int):=by omega
      clear hNP hw4 HQ4 HN HN2 HNx hsi hjs hbu HQ HGo
      go_wp2
      go_roundw
      case rel=>exact ⟨j+1,bl.set i true,by omega,by congr 1;omega,by simp [hbl],HGo2,HQ5⟩
      case measure=>simp [intOf];omega
     ·obtain rfl:j=lf:=by omega
      have hz:¬ (0:Int) < (j:Int) - (j:Int):=by omega
      have HE:Hid (shareL t l=bumps (baseL t u) (srtL t u) j):=by rw [HLF.out];exact HF.out
      go_wp2
      go_ret
      exact ⟨_,rfl,by rw [HE.out];exact RowI.of_owns HQ.out.o8,HQ.out.below⟩
end Go.Proofs.YtcbibdhlkdcmiafGreat
namespace Go.Proofs.YtcbibdhlkdcmiafGreat
open Go.RowKit

set_option maxRecDepth 100000 in
set_option maxHeartbeats 1000000 in
theorem specl5Said (ac ar:Option Addr) (cc cr:Nat) (t:T) (q:Int) (hq:0≤q) (w:World) {z:Nat} (hc:ColsAt w z (.slice ac t.cols.length cc) t.cols) :
  Calls Tryz.prog 112 #[.agg #[.slice ac t.cols.length cc,.int .i64 t.head,.int .i64 t.foot,.slice ar t.rows.length cr,.int .i64 t.gap],.int .i64 q] w fun e w'=>e=.returned (.agg #[.int .i64 (sd t.cols q).1,.int .i64 (sd t.cols q).2])∧Below w.heap.size w w':=by
 obtain ⟨_,_,_,hlen⟩:=At.form hc
 unfold maxLen at hlen
 obtain ⟨k,rfl⟩:=Int.eq_ofNat_of_zero_le hq
 by_cases hkl:k < t.cols.length
 ·rw [sd_yes hkl]
  have hlt:(k:Int) < (t.cols.length:Int):=by omega
  obtain ⟨b,off,cap',e',hc1,hc2,hbl,hx0,hx1⟩:=At.get hc hkl
  simp only [Value.slice.injEq,true_and] at e'
  obtain ⟨rfl,rfl⟩:=e'
  unfold maxLen at hc2
  generalize t.cols.getD k (0,0)=p at hx0 hx1 ⊢
  clear hc
  go_enter Tryz.func112,Tryz.ntmps112
  go_wp2
  exact bodyPost_ret (v:=.agg #[.int .i64 p.1,.int .i64 p.2]) (by simp [results,Tryz.results112,go_sem]) rfl ⟨rfl,by repeat (first | exact Below.refl _ _ | apply k_alloc)⟩
 ·rw [sd_no (inB_false (by omega))]
  have hlt:¬ (k:Int) < (t.cols.length:Int):=by omega
  clear hc
  go_enter Tryz.func112,Tryz.ntmps112
  go_wp2
  exact bodyPost_ret (v:=.agg #[.int .i64 0,.int .i64 0]) (by simp [results,Tryz.results112,go_sem]) rfl ⟨rfl,by repeat (first | exact Below.refl _ _ | apply k_alloc)⟩
end Go.Proofs.YtcbibdhlkdcmiafGreat
namespace Go.Proofs.YtcbibdhlkdcmiafGreat
open Go.RowKit

theorem own_span {l:List Int} {x:GC} {c m:Nat} (hc:x.col=c) (hm:x.cols=m):∀ k,k≤l.length→(ownL l (inCell x) k).length=min m (k - c)∧(ownL l (inCell x) k).sum=sumTo l (min k (c+m)) - sumTo l (min k c)
 | 0,_=>by simp [ownL,sumTo]
 | k+1,hk=>by
  obtain ⟨h1,h2⟩:=own_span (l:=l) hc hm k (by omega)
  by_cases hin:c≤k∧k < c+m
  ·have e:inCell x k=true:=by simp [inCell,amongB,hc,hm];omega
   rw [ownL_yes e,List.length_append,List.sum_append,h1,h2]
   have e1:min (k+1) (c+m)=k+1:=by omega
   have e2:min k (c+m)=k:=by omega
   have e3:min (k+1) c=c:=by omega
   have e4:min k c=c:=by omega
   rw [e1,e2,e3,e4,sumTo_succ (by omega)]
   simp
   omega
  ·have e:inCell x k=false:=by simp [inCell,amongB,hc,hm];omega
   rw [ownL_no e,h1,h2]
   have e1:min (k+1) (c+m)=min k (c+m)∨min (k+1) c=k+1:=by omega
   by_cases hkc:k < c
   ·have a1:min (k+1) (c+m)=k+1:=by omega
    have a2:min k (c+m)=k:=by omega
    have a3:min (k+1) c=k+1:=by omega
    have a4:min k c=k:=by omega
    rw [a1,a2,a3,a4]
    omega
   ·have a1:min (k+1) (c+m)=min k (c+m):=by omega
    have a3:min (k+1) c=min k c:=by omega
    rw [a1,a3]
    omega
end Go.Proofs.YtcbibdhlkdcmiafGreat
namespace Go.Proofs.YtcbibdhlkdcmiafGreat
open Go.RowKit

theorem l1Among_any (x f m:Int) (hx:I64 x) (hf:I64 f) (hm:I64 m) (w:World) :
  Calls Tryz.prog 123 #[.int .i64 x,.int .i64 f,.int .i64 m] w fun e w'=>e=.returned (.bool (amongB x f m))∧w'=w:=by
 unfold I64 at hx hf hm
 by_cases h1:x < f
 ·have e:amongB x f m=false:=by simp [amongB];omega
  rw [e]
  go_enter Tryz.func123,Tryz.ntmps123
  go_wp2
  go_ret
  exact ⟨rfl,rfl⟩
 ·by_cases h2:m≤0
  ·have e:amongB x f m=false:=by simp [amongB];omega
   rw [e]
   go_enter Tryz.func123,Tryz.ntmps123
   go_wp2
   go_ret
   exact ⟨rfl,rfl⟩
  ·by_cases h3:f < 0
   ·by_cases h4:0≤x
    ·have e:amongB x f m=decide (x < m+f):=by
      have:decide (x - f < m)=decide (x < m+f):=by apply decide_eq_decide.2;omega
      simp only [amongB,this];simp;omega
     rw [e]
     go_enter Tryz.func123,Tryz.ntmps123
     go_wp2
     go_ret
     exact ⟨rfl,rfl⟩
    ·have e:amongB x f m=decide (x - f < m):=by simp [amongB];omega
     rw [e]
     go_enter Tryz.func123,Tryz.ntmps123
     go_wp2
     go_ret
     exact ⟨rfl,rfl⟩
   ·have e:amongB x f m=decide (x - f < m):=by simp [amongB];omega
    rw [e]
    go_enter Tryz.func123,Tryz.ntmps123
    go_wp2
    go_ret
    exact ⟨rfl,rfl⟩
end Go.Proofs.YtcbibdhlkdcmiafGreat
