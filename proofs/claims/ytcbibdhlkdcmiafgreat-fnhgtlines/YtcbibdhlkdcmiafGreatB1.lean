/-
  PROVED HERE: small laws on what a call leaves as it was, for the other texts of this claim. Also: what the program's TxtOk answers at every string: the Bool 'txtOkB', and the memory is left as it was. Also: what the model's TxtOk answers at every text; nothing that was in memory is turned. Also: small facts for loops over an iterator: what a round keeps of a box; a box's cell behind what is laid since. Also: an operation that is no defer statement is carried out in a round of a loop as outside of one; so a region of such that only reads may be walked once, in its text's order, in a round too; the three ways to take up the operations of a region that draws its order. Also: the program's own iterator over the slots of a cell, for every loop that goes over it; nothing that was in memory is turned.
-/
import Derived.Test.YtcbibdhlkdcmiafGreatRows
import Derived.WalkKit
import Derived.ProofKit
import Derived.Below
import Derived.Deep.Draws
import Derived.WalkLawsBesides
import Derived.WalkSpells
import Derived.Lib.Strings
import Derived.RangeFuncNested
import Derived.RangeFuncBound
import Derived.RangeFuncCalls
import Derived.RangeFuncLeaves
import Derived.Shelf.Abstract
import Derived.Shelf.RegionOpen
import Derived.OwnWalkIn
import Derived.TacticsInMore
import Derived.LoopNIn
import Derived.LoopIn
import Derived.RangeFuncFrom
import Derived.OrdersIn
import Derived.Sort.QuietIn
namespace Go.Proofs.YtcbibdhlkdcmiafGreat
open Go.RowKit

theorem own:ownKnob Tryz.prog.godebug=none:=by kernel_rfl
theorem laidOut:laidOutB Tryz.prog=true:=by kernel_rfl
theorem Hid.intro {p:Prop} (h:p):Hid p:=h
theorem k_alloc {a w:World} (h:Below a.heap.size a w) (o:Obj):Below a.heap.size a (w.alloc o):=h.alloc h.size o
theorem k_drew {a w:World} (h:Below a.heap.size a w):Below a.heap.size a w.drew:=h.drew
theorem k_drewN {a w:World} (h:Below a.heap.size a w) (n:Nat):Below a.heap.size a (w.drewN n):=⟨h.os,h.tape,h.output,h.size,h.block⟩
theorem k_set {a w:World} (h:Below a.heap.size a w) {p:Addr} (hp:a.heap.size≤p.block) (u:Value):Below a.heap.size a (w.setCell p u):=h.setCell hp u
theorem k_trans {a b c:World} (h:Below a.heap.size a b) (k:Below b.heap.size b c):Below a.heap.size a c:=h.trans (k.mono h.size)
end Go.Proofs.YtcbibdhlkdcmiafGreat
namespace Go.Proofs.YtcbibdhlkdcmiafGreat
open Go.RowKit

/-- the i-th byte of a text, 0 past its end -/
def ch (s:ByteArray) (i:Nat):Int:=if h:i < s.size then (s[i].toNat:Int) else 0
def goodB (s:ByteArray) (i:Nat):Bool:=decide ((ch s i=32→i ≠ 0∧i+1 ≠ s.size∧ch s (i - 1) ≠ 32)∧(ch s i ≠ 32→97≤ch s i∧ch s i≤122))
def txtOkB (s:ByteArray):Bool:=decide (s.size≤30) && (List.range s.size).all (goodB s)

theorem txtOkB_iff (s:ByteArray):txtOkB s=true ↔ s.size≤30∧∀ i,i < s.size→goodB s i=true:=by
 simp [txtOkB,List.all_eq_true]
theorem txtOkB_long {s:ByteArray} (h:¬ s.size≤30):txtOkB s=false:=by simp [txtOkB,h]
theorem txtOkB_bad {s:ByteArray} (i:Nat) (hi:i < s.size) (h:goodB s i=false):txtOkB s=false:=by
 cases hb:txtOkB s with
 | false=>rfl
 | true=>rw [((txtOkB_iff s).1 hb).2 i hi] at h;cases h
theorem txtOkB_all {s:ByteArray} (h30:s.size≤30) (h:∀ i,i < s.size→goodB s i=true):txtOkB s=true:=(txtOkB_iff s).2 ⟨h30,h⟩
theorem ch_at {s:ByteArray} {i:Nat} (h:i < s.size):ch s i=(s[i].toNat:Int):=by simp [ch,h]
theorem next_all {s:ByteArray} {k:Nat} (h:∀ j,j < k→goodB s j=true) (hk:goodB s k=true):∀ j,j < k+1→goodB s j=true:=by
 intro j hj
 rcases Nat.lt_or_eq_of_le (Nat.lt_succ_iff.1 hj) with h1 | h1
 ·exact h j h1
 ·rw [h1];exact hk
theorem toList_nil {s:ByteArray} (h:s.size=0):s.toList=[]:=by
 rw [Lib.toList_data];exact List.eq_nil_of_length_eq_zero (by simpa using h)
theorem size_nil {s:ByteArray} (h:s.toList=[]):s.size=0:=by
 rw [Lib.toList_data] at h;have:=congrArg List.length h;simpa using this
theorem ret_bool {a b:Bool} (h:a=b):Ending.returned (.bool a)=.returned (.bool b):=by rw [h]

def bef (s:ByteArray) (k:Nat):Int:=if k=0 then 32 else ch s (k - 1)
def goodI (s:ByteArray) (j:Nat):Prop:=(ch s j=32→bef s j ≠ 32)∧(ch s j ≠ 32→97≤ch s j∧ch s j≤122)
theorem goodI_next {s:ByteArray} {k:Nat} (h:∀ j,j < k→goodI s j) (hk:goodI s k):∀ j,j < k+1→goodI s j:=by
 intro j hj
 rcases Nat.lt_or_eq_of_le (Nat.lt_succ_iff.1 hj) with h1 | h1
 ·exact h j h1
 ·rw [h1];exact hk
theorem txtOkB_badI {s:ByteArray} (k:Nat) (hk:k < s.size) (h:¬ goodI s k):txtOkB s=false:=by
 refine txtOkB_bad k hk ?_
 unfold goodI bef at h
 unfold goodB
 rw [decide_eq_false_iff_not]
 intro ⟨h1,h2⟩
 apply h
 refine ⟨fun e=>?_,h2⟩
 obtain ⟨a,_,c⟩:=h1 e
 simp [a];exact c
theorem txtOkB_endI {s:ByteArray} (h30:s.size≤30) (h:∀ j,j < s.size→goodI s j) (hz:s.size ≠ 0) (hl:bef s s.size ≠ 32):txtOkB s=true:=by
 refine txtOkB_all h30 (fun i hi=>?_)
 have hg:=h i hi
 unfold goodI bef at hg
 unfold bef at hl
 unfold goodB
 rw [decide_eq_true_iff]
 refine ⟨fun e=>?_,hg.2⟩
 have h1:=hg.1 e
 by_cases i0:i=0
 ·simp [i0] at h1
 ·simp [i0] at h1
  refine ⟨i0,fun he=>?_,h1⟩
  rw [if_neg hz,← he] at hl
  simp at hl
  exact hl e
theorem txtOkB_emptyI {s:ByteArray} (hz:s.size=0):txtOkB s=true:=txtOkB_all (by omega) (fun i hi=>by omega)
theorem txtOkB_lastI {s:ByteArray} (hz:s.size ≠ 0) (hl:bef s s.size=32):txtOkB s=false:=by
 refine txtOkB_bad (s.size - 1) (by omega) ?_
 unfold bef at hl
 rw [if_neg hz] at hl
 unfold goodB
 rw [decide_eq_false_iff_not]
 intro ⟨h1,_⟩
 exact (h1 hl).2.1 (by omega)
theorem bef_succ {s:ByteArray} {k:Nat} (h:k < s.size):bef s (k+1)=(s[k].toNat:Int):=by simp [bef,ch,h]

set_option maxRecDepth 100000 in
set_option maxHeartbeats 400000 in
theorem implTxtOk (s:ByteArray) (w:World) (hs:s.size≤maxLen) :
  Calls Tryz.prog 45 #[.string s] w fun e w'=>e=.returned (.bool (txtOkB s))∧w'=w:=by
 unfold maxLen at hs
 by_cases h30:s.size≤30
 ·go_enter Tryz.func45,Tryz.ntmps45
  go_wp2
  go_loop [3,4,10] (fun b _ i=>∃ (k:Nat) (B:Int),k≤s.size∧i=.int .i64 k∧b=.int .u8 B∧Hid (bef s k=B)∧Hid (∀ j,j < k→goodI s j)) (fun _ _ i=>s.size - (intOf i).toNat)
  case atStart=>exact ⟨0,32,Nat.zero_le _,rfl,rfl,rfl,fun j hj=>absurd hj (Nat.not_lt_zero _)⟩
  case round =>
   obtain ⟨k,B,hk,rfl,rfl,HBf,HA⟩:=hrel
   by_cases hlt:k < s.size
   ·have hb:(s[k].toNat:Int) < 256:=by have:=s[k].toNat_lt;omega
    have HC:Hid (ch s k=(s[k].toNat:Int)):=ch_at hlt
    have HS:Hid (bef s (k+1)=(s[k].toNat:Int)):=bef_succ hlt
    by_cases hc:(s[k].toNat:Int)=32
    ·have hc':((s[k].toNat:Int) == 32)=true:=beq_iff_eq.2 hc
     have hc2:((s[k].toNat:Int) != 32)=false:=by rw [bne,hc'];rfl
     have HE:Hid (ch s k=32):=HC.out.trans hc
     clear hc HC hb
     by_cases hB:B=32
     ·as_aux_lemma =>
       have hB':(B == 32)=true:=beq_iff_eq.2 hB
       have HF:Hid (txtOkB s=false):=txtOkB_badI k hlt (fun hg=>hg.1 HE.out (HBf.out.trans hB))
       clear hB HE HBf HA HS
       go_wp2
       go_ret
       exact ⟨ret_bool HF.out.symm,rfl⟩
     ·as_aux_lemma =>
       have hB':(B == 32)=false:=beq_eq_false_iff_ne.2 hB
       have HN:Hid (∀ j,j < k+1→goodI s j):=goodI_next HA.out ⟨fun _=>by rw [HBf.out];exact hB,fun hne=>absurd HE.out hne⟩
       clear hB HE HBf HA
       go_wp2
       go_round
       case rel=>exact ⟨k+1,_,by omega,by go_num,rfl,HS,HN⟩
       case measure=>simp [intOf];omega
    ·have hc':((s[k].toNat:Int) == 32)=false:=beq_eq_false_iff_ne.2 hc
     have hc2:((s[k].toNat:Int) != 32)=true:=bne_iff_ne.2 hc
     by_cases hr:97≤(s[k].toNat:Int)∧(s[k].toNat:Int)≤122
     ·as_aux_lemma =>
       have HN:Hid (∀ j,j < k+1→goodI s j):=goodI_next HA.out ⟨fun he=>absurd (HC.out.symm.trans he) hc,fun _=>by rw [HC.out];exact hr⟩
       obtain ⟨hr1,hr2⟩:=hr
       clear HC HA hc HBf
       go_wp2
       go_round
       case rel=>exact ⟨k+1,_,by omega,by go_num,rfl,HS,HN⟩
       case measure=>simp [intOf];omega
     ·have HF:Hid (txtOkB s=false):=txtOkB_badI k hlt (fun hg=>hr (by have:=hg.2 (by rw [HC.out];exact hc);rw [HC.out] at this;exact this))
      clear HC HA hc HBf HS
      by_cases hr1:97≤(s[k].toNat:Int)
      ·as_aux_lemma =>
        have hr2:¬ (s[k].toNat:Int)≤122:=by omega
        clear hr
        go_wp2
        go_ret
        exact ⟨ret_bool HF.out.symm,rfl⟩
      ·as_aux_lemma =>
        clear hr
        go_wp2
        go_ret
        exact ⟨ret_bool HF.out.symm,rfl⟩
   ·obtain rfl:k=s.size:=by omega
    by_cases hz:s.size=0
    ·have he:s.toList=[]:=toList_nil hz
     have HF:Hid (txtOkB s=true):=txtOkB_emptyI hz
     clear HBf HA
     go_wp2
     go_ret
     exact ⟨ret_bool HF.out.symm,rfl⟩
    ·have he:¬ s.toList=[]:=fun h=>hz (size_nil h)
     have he2:s.toList.isEmpty=false:=by simpa using he
     by_cases hB:B=32
     ·have hB':(B != 32)=false:=by simp [hB]
      have HF:Hid (txtOkB s=false):=txtOkB_lastI hz (HBf.out.trans hB)
      clear HBf HA hB hz he
      go_wp2
      go_ret
      exact ⟨ret_bool HF.out.symm,rfl⟩
     ·have hB':(B != 32)=true:=bne_iff_ne.2 hB
      have HF:Hid (txtOkB s=true):=txtOkB_endI h30 HA.out hz (by rw [HBf.out];exact hB)
      clear HBf HA hB hz he
      go_wp2
      go_ret
      exact ⟨ret_bool HF.out.symm,rfl⟩
 ·go_enter Tryz.func45,Tryz.ntmps45
  go_wp2
  go_ret
  exact ⟨ret_bool (txtOkB_long h30).symm,rfl⟩
end Go.Proofs.YtcbibdhlkdcmiafGreat
namespace Go.Proofs.YtcbibdhlkdcmiafGreat
open Go.RowKit

set_option maxRecDepth 100000 in
set_option maxHeartbeats 400000 in
theorem specTxtOk (s:ByteArray) (w:World) (hs:s.size≤maxLen) :
  Calls Tryz.prog 87 #[.string s] w fun e w'=>e=.returned (.bool (txtOkB s))∧w'=w:=by
 unfold maxLen at hs
 by_cases h30:s.size≤30
 ·go_enter Tryz.func87,Tryz.ntmps87
  go_wp2
  go_loop [3] (fun i=>∃ k:Nat,k≤s.size∧i=.int .i64 k∧∀ j,j < k→goodB s j=true) (fun i=>s.size - (intOf i).toNat)
  case atStart=>exact ⟨0,Nat.zero_le _,rfl,fun j hj=>absurd hj (Nat.not_lt_zero _)⟩
  case round =>
   obtain ⟨k,hk,rfl,hall0⟩:=hrel
   have HA:Hid (∀ j,j < k→goodB s j=true):=hall0
   clear hall0
   by_cases hlt:k < s.size
   ·have hb:(s[k].toNat:Int) < 256:=by have:=s[k].toNat_lt;omega
    have HC:Hid (ch s k=(s[k].toNat:Int)):=ch_at hlt
    by_cases hc:(s[k].toNat:Int)=32
    ·have hc':((s[k].toNat:Int) == 32)=true:=beq_iff_eq.2 hc
     have HE:Hid (ch s k=32):=HC.out.trans hc
     clear hc HC hb
     by_cases h0:k=0
     ·as_aux_lemma =>
       subst h0
       have hbad:goodB s 0=false:=by simp [goodB,HE.out]
       have HB:Hid (txtOkB s=false):=txtOkB_bad 0 hlt hbad
       clear hbad HE HA
       go_wp2
       go_ret
       exact ⟨ret_bool HB.out.symm,rfl⟩
     ·have h0':((k:Int) == 0)=false:=beq_eq_false_iff_ne.2 (by omega)
      by_cases h1:k+1=s.size
      ·as_aux_lemma =>
        have h1':((k:Int) == (s.size:Int) - 1)=true:=beq_iff_eq.2 (by omega)
        have hbad:goodB s k=false:=by simp [goodB,HE.out,h1]
        have HB:Hid (txtOkB s=false):=txtOkB_bad k hlt hbad
        clear hbad HE HA h1 h0
        go_wp2
        go_ret
        exact ⟨ret_bool HB.out.symm,rfl⟩
      ·have h1':((k:Int) == (s.size:Int) - 1)=false:=beq_eq_false_iff_ne.2 (by omega)
       have hl2:k - 1 < s.size:=by omega
       have HP:Hid (ch s (k - 1)=(s[k - 1].toNat:Int)):=ch_at hl2
       by_cases hp:(s[k - 1].toNat:Int)=32
       ·as_aux_lemma =>
         have hp':((s[k - 1].toNat:Int) == 32)=true:=beq_iff_eq.2 hp
         have hbad:goodB s k=false:=by simp [goodB,HE.out,HP.out,hp]
         have HB:Hid (txtOkB s=false):=txtOkB_bad k hlt hbad
         clear hbad HE HA HP hp
         go_wp2
         go_ret
         exact ⟨ret_bool HB.out.symm,rfl⟩
       ·as_aux_lemma =>
         have hp':((s[k - 1].toNat:Int) == 32)=false:=beq_eq_false_iff_ne.2 hp
         have hc2:((s[k].toNat:Int) != 32)=false:=by rw [bne,hc'];rfl
         have hgood:goodB s k=true:=by simp [goodB,HE.out,HP.out,hp,h0,h1]
         have HN:Hid (∀ j,j < k+1→goodB s j=true):=next_all HA.out hgood
         clear hgood HE HA HP hp
         go_wp2
         go_round
         case rel=>exact ⟨k+1,by omega,by go_num,HN.out⟩
         case measure=>simp [intOf];omega
    ·have hc':((s[k].toNat:Int) == 32)=false:=beq_eq_false_iff_ne.2 hc
     have hc2:((s[k].toNat:Int) != 32)=true:=bne_iff_ne.2 hc
     by_cases hr:97≤(s[k].toNat:Int)∧(s[k].toNat:Int)≤122
     ·as_aux_lemma =>
       obtain ⟨hr1,hr2⟩:=hr
       have hgood:goodB s k=true:=by simp [goodB,HC.out];omega
       have HN:Hid (∀ j,j < k+1→goodB s j=true):=next_all HA.out hgood
       clear hgood HC HA hc
       go_wp2
       go_round
       case rel=>exact ⟨k+1,by omega,by go_num,HN.out⟩
       case measure=>simp [intOf];omega
     ·have hbad:goodB s k=false:=by simp [goodB,HC.out];omega
      have HB:Hid (txtOkB s=false):=txtOkB_bad k hlt hbad
      clear hbad HC HA hc
      by_cases hr1:97≤(s[k].toNat:Int)
      ·as_aux_lemma =>
        have hr2:¬ (s[k].toNat:Int)≤122:=by omega
        clear hr
        go_wp2
        go_ret
        exact ⟨ret_bool HB.out.symm,rfl⟩
      ·as_aux_lemma =>
        clear hr
        go_wp2
        go_ret
        exact ⟨ret_bool HB.out.symm,rfl⟩
   ·go_wp2
    go_ret
    exact ⟨ret_bool (txtOkB_all h30 (fun i hi=>HA.out i (by omega))).symm,rfl⟩
 ·go_enter Tryz.func87,Tryz.ntmps87
  go_wp2
  go_ret
  exact ⟨ret_bool (txtOkB_long h30).symm,rfl⟩
end Go.Proofs.YtcbibdhlkdcmiafGreat
namespace Go.Proofs.YtcbibdhlkdcmiafGreat
open Go.RowKit Go.Shelf

/-- what a round keeps: the text's own box -/
def BoxK (B:Nat) (W W':World):Prop:=W'.heap[B]?=W.heap[B]?
theorem BoxK.trans {B:Nat} {a b c:World} (h:BoxK B a b) (k:BoxK B b c):BoxK B a c:=Eq.trans k h

theorem BoxK_b {B:Nat} {w:World} (h:B < w.heap.size) (W:World) (l:Nat) (o o':Obj) (hl:w.heap.size≤l) (_:W.heap[l]?=some o) (_:o.isCells=false) (_:o.isWalk=false):BoxK B W (W.putObj l o'):=by
 show (W.putObj l o').heap[B]?=W.heap[B]?
 simp only [World.putObj]
 rw [Array.getElem?_setIfInBounds_ne (by omega)]
theorem cell_of_box_l {W:World} {B:Nat} {v:Value} {t:TypeId} (h:W.heap[B]?=some (.cells #[v] t (0,0))):W.cell? ⟨B,0,none⟩=some v∧W.frozen? ⟨B,0,none⟩=false:=by
 constructor <;> simp [World.cell?,World.frozen?,h]
theorem cell_new_l (W:World) (v:Value) (t:TypeId):(W.alloc (.cells #[v] t)).cell? ⟨W.heap.size,0,none⟩=some v∧(W.alloc (.cells #[v] t)).frozen? ⟨W.heap.size,0,none⟩=false :=
 cell_of_box_l (World.alloc_heap_new W _)
theorem cell_alloc_l {W:World} {a:Addr} {v:Value} (o:Obj) (h:W.cell? a=some v):(W.alloc o).cell? a=some v:=cell_kept h (World.grownBy_alloc W o none) (fun r e=>by cases e)
theorem frozen_alloc_l {W:World} {a:Addr} {v:Value} (o:Obj) (h:W.cell? a=some v) (hf:W.frozen? a=false):(W.alloc o).frozen? a=false:=(frozen_kept h (World.grownBy_alloc W o none) (fun r e=>by cases e)).trans hf
end Go.Proofs.YtcbibdhlkdcmiafGreat
namespace Go.Proofs.YtcbibdhlkdcmiafGreat
open Go.RowKit

theorem opIn_round {n l:Nat} {P:Program} {o:Oper} {a:Act} {w:World} {K:Act→World→Prop} {Q:Exit→Act→World→Prop} (hd:∀ c,o.op ≠ .defer c) (h:o.wpIn Fence.wide n P a w K Q):o.wpIn (Fence.wide.inRound l) n P a w K Q:=by
 unfold Oper.wpIn at *
 refine ⟨h.1,?_⟩
 have h2:=h.2
 rw [Oper.semAt_plain _ _ _ hd] at h2 ⊢
 generalize (execOp a.eval o).run P w=r at h2 ⊢
 exact h2
/-- whether no operation is a defer statement -/
def noDefer (ops:List Oper):Bool:=ops.all (fun o=>match o.op with | .defer _=>false | _=>true)
theorem noDefer_get {ops:List Oper} (h:noDefer ops=true) {i:Nat} {o:Oper} (ho:ops.toArray[i]?=some o):∀ c,o.op ≠ .defer c:=by
 intro c hc
 have hm:o ∈ ops:=by
  rw [List.getElem?_toArray] at ho
  exact List.mem_of_getElem? ho
 have:=List.all_eq_true.1 h o hm
 rw [hc] at this
 cases this
theorem anyIn_round {n l:Nat} {P:Program} {md:Region.Mode} {ops:List Oper} {Q:Exit→Act→World→Prop} (hd:noDefer ops=true):∀ (fuel:Nat) (listed:Array Bool) (a:Act) (w:World),
  wpAnyIn Fence.wide n P md ops.toArray Q fuel listed a w→wpAnyIn (Fence.wide.inRound l) n P md ops.toArray Q fuel listed a w
 | 0,_,_,_,h=>h
 | fuel+1,_,_,_,h=>⟨h.1,fun i hi=>by
   have h2:=h.2 i hi
   unfold wpOpIn at h2 ⊢
   cases ho:ops.toArray[i]? with
   | none=>rw [ho] at h2;exact anyIn_round hd fuel _ _ _ h2
   | some o =>
    rw [ho] at h2
    dsimp only at h2 ⊢
    split
    ·rename_i hw
     rw [if_pos hw] at h2
     exact opIn_round (noDefer_get hd ho) (Oper.wpIn_mono (fun a w hh=>anyIn_round hd fuel _ a w hh) h2)
    ·rename_i hw
     rw [if_neg hw] at h2
     exact ⟨h2.1,anyIn_round hd fuel _ _ _ h2.2⟩⟩
/-- a region that only reads, in a round -/
theorem quietRound {n l id:Nat} {P:Program} {Q:Exit→Act→World→Prop} {a:Act} {w:World} {ops:List Oper} (hd:noDefer ops=true) (hm:P.follows .mixedOrders=true) (hB:Region.lexB .any ops.toArray=true)
  (h:wpQuietIn Fence.wide n P ops.toArray (fun w'=>∃ n,w'=w.drewN n) (fun a'=>∀ w',(∃ n,w'=w.drewN n)→Q .normal a' w') ops a):(Code.region id ops.toArray true).wpIn (Fence.wide.inRound l) n P Q a w:=by
 have hB':=hB
 simp only [Region.lexB,Bool.and_eq_true] at hB'
 refine wpIn_region_any hm (anyIn_round hd _ _ _ _ (wpAnyIn_of_quiet (Q:=fun a'=>∀ w',(∃ n,w'=w.drewN n)→Q .normal a' w') (C:=fun w'=>∃ n,w'=w.drewN n) rfl (fun _ w' hw' h=>h w' hw') _ _ _ _ ⟨1,rfl⟩ ?_))
 have:=wpAnyQIn_lex (F:=Fence.wide) (n:=n) (C:=fun w'=>∃ n,w'=w.drewN n) (md:=.any) hB'.1 ops 0 (Array.replicate ops.toArray.size false) a (by simp) (by simpa using hB'.2) h
 simpa using this
/-- an operation of a region that may come up alone -/
theorem ready1 {F:Fence} {n:Nat} {P:Program} {md:Region.Mode} {ops:Array Oper} {Q:Exit→Act→World→Prop} {fuel:Nat} {listed:Array Bool} {a:Act} {w:World} {i:Nat} {o:Oper} (hr:Region.ready md ops listed=[i]) (ho:ops[i]?=some o)
  (h:∀ K':Act→World→Prop,(∀ a w,wpAnyIn F n P md ops Q fuel (listed.setIfInBounds i true) a w→K' a w)→if Region.wanted o (yielded ops a.tmps)=true then Oper.wpIn F n P o a w K' Q else (∀ f,o.about P w a.eval=some f→F.fn f)∧K' (a.put o.dst undef) w) :
  wpAnyIn F n P md ops Q (fuel+1) listed a w:=wpAnyIn_ready hr (by simp) (AllReadyIn.cons ho h (fun _ hj=>by cases hj))
theorem ready2 {F:Fence} {n:Nat} {P:Program} {md:Region.Mode} {ops:Array Oper} {Q:Exit→Act→World→Prop} {fuel:Nat} {listed:Array Bool} {a:Act} {w:World} {i j:Nat} {o o':Oper} (hr:Region.ready md ops listed=[i,j]) (ho:ops[i]?=some o) (ho':ops[j]?=some o')
  (h:∀ K':Act→World→Prop,(∀ a w,wpAnyIn F n P md ops Q fuel (listed.setIfInBounds i true) a w→K' a w)→if Region.wanted o (yielded ops a.tmps)=true then Oper.wpIn F n P o a w K' Q else (∀ f,o.about P w a.eval=some f→F.fn f)∧K' (a.put o.dst undef) w)
  (h':∀ K':Act→World→Prop,(∀ a w,wpAnyIn F n P md ops Q fuel (listed.setIfInBounds j true) a w→K' a w)→if Region.wanted o' (yielded ops a.tmps)=true then Oper.wpIn F n P o' a w K' Q else (∀ f,o'.about P w a.eval=some f→F.fn f)∧K' (a.put o'.dst undef) w) :
  wpAnyIn F n P md ops Q (fuel+1) listed a w:=wpAnyIn_ready hr (by simp) (AllReadyIn.cons ho h (AllReadyIn.cons ho' h' (fun _ hj=>by cases hj)))
/-- an append in a region that draws its order -/
theorem ready_append {F:Fence} {n:Nat} {P:Program} {md:Region.Mode} {ops:Array Oper} {Q:Exit→Act→World→Prop} {fuel:Nat} {listed:Array Bool} {a:Act} {w:World} {j:Nat} {o:Oper} (hr:Region.ready md ops listed=[j]) (ho:ops[j]?=some o) (hg:o.guard=none)
  (s x:Operand) (t:TypeId) (hop:o.op=Op.call { callee:=Callee.builtin Builtin.append,args:=#[s,x],argTypes:=#[t,t] })
  (base:Nat) (e:TypeId) (i:TypeInfo) (z:Value) (size bytes:Nat) (h1:P.underlying t=some (.slice e)) (h2:P.info? e=some i) (h3:i.zero=some z) (h4:i.size=size) (h5:i.bytes=bytes) (h6:z.cells.size=size) (h7:0 < size)
  (v:Value) (k:Nat) (xs:List Value) (hs:a.eval s=v) (hown:w.ownsRow base e size v k xs) (ad:Addr) (m c:Nat) (news:List Value) (hx:a.eval x=.slice (some ad) m c) (hn:news.length=m * size)
  (hc:∀ j u,news[j]?=some u→w.cell? (ad.add j)=some u) (h1c:∀ u ∈ news,u.oneCell'=true) (b1:k+m≤maxLen) (b2:(k+m) * bytes≤140737488355328) (b3:base≤w.heap.size)
  (hK:∀ v' w',w'.ownsRow base e size v' (k+m) (xs ++ news)→w.grownBy w' v.ownBlock→wpAnyIn F n P md ops Q fuel (listed.setIfInBounds j true) (a.put o.dst v') w') :
  wpAnyIn F n P md ops Q (fuel+1) listed a w:=by
 refine ready1 hr ho (fun K hK'=>?_)
 obtain ⟨v',w',hrun,r1,r2,_⟩:=run_append_own (P:=P) w base t o.type e i z size bytes h1 h2 h3 h4 h5 h6 h7 v k xs hown ad m c news hn hc h1c b1 b2 b3
 rw [if_pos (by simp [Region.wanted,hg])]
 unfold Oper.wpIn
 refine ⟨?_,?_⟩
 ·simp [Oper.about,hop,resolve,Target.leads,Sem.run_pure]
 ·rw [Oper.semAt_plain F _ _ (by rw [hop];intro c hc';cases hc')]
  simp [execOp,hop,resolve,invoke,builtin,hs,hx,hrun,Result.andThen]
  exact hK' _ _ (hK v' w' r1 r2)
end Go.Proofs.YtcbibdhlkdcmiafGreat
namespace Go.Proofs.YtcbibdhlkdcmiafGreat
open Go.RowKit Go.Shelf
attribute [local go_sem] Oper.semAt_some

/-- a slot: row and column, neither great -/
abbrev Sl:={ x:Nat × Nat // x.1≤1000∧x.2≤1000 }
def toSl (r c:Nat):Sl:=if h:r≤1000∧c≤1000 then ⟨(r,c),h⟩ else ⟨(0,0),by simp⟩
theorem toSl_of {r c:Nat} (h:r≤1000∧c≤1000):toSl r c=⟨(r,c),h⟩:=dif_pos h
theorem toSl_val {r c:Nat} (h:r≤1000∧c≤1000):(toSl r c).1=(r,c):=by rw [toSl_of h]
/-- a slot in memory -/
def slV (x:Nat × Nat):Value:=.agg #[.int .i64 x.1,.int .i64 x.2]
/-- the first so many slots of a row, from a column on -/
def rowSl (r c a:Nat):List Sl:=(List.range a).map fun j=>toSl r (c+j)
/-- the slots of the first so many rows -/
def rowsSl (r c cs d:Nat):List Sl:=(List.range d).flatMap fun i=>rowSl (r+i) c cs
theorem rowSl_succ (r c a:Nat):rowSl r c (a+1)=rowSl r c a ++ [toSl r (c+a)]:=by simp [rowSl,List.range_succ]
theorem rowsSl_succ (r c cs d:Nat):rowsSl r c cs (d+1)=rowsSl r c cs d ++ rowSl (r+d) c cs:=by simp [rowsSl,List.range_succ]
theorem rowSl_pre {r c a b:Nat} (h:a≤b):rowSl r c a <+: rowSl r c b:=by
 obtain ⟨k,rfl⟩:=Nat.exists_eq_add_of_le h
 simp only [rowSl,List.range_add,List.map_append]
 exact List.prefix_append _ _
theorem rowsSl_pre {r c cs a b:Nat} (h:a≤b):rowsSl r c cs a <+: rowsSl r c cs b:=by
 obtain ⟨k,rfl⟩:=Nat.exists_eq_add_of_le h
 simp only [rowsSl,List.range_add,List.flatMap_append]
 exact List.prefix_append _ _
/-- one slot more is still ahead of the end -/
theorem slots_pre {r c cs d a rs:Nat} (hd:d < rs) (ha:a < cs):(rowsSl r c cs d ++ rowSl (r+d) c a) ++ [toSl (r+d) (c+a)] <+: rowsSl r c cs rs:=by
 rw [List.append_assoc,← rowSl_succ]
 refine List.IsPrefix.trans ?_ (rowsSl_pre (Nat.succ_le_of_lt hd))
 rw [rowsSl_succ]
 exact (List.prefix_append_right_inj _).2 (rowSl_pre ha)
theorem slots_len {r c cs d a rs:Nat} (hd:d < rs) (ha:a < cs):(rowsSl r c cs d ++ rowSl (r+d) c a).length < (rowsSl r c cs rs).length:=by
 have:=(slots_pre (r:=r) (c:=c) hd ha).length_le
 simp only [List.length_append,List.length_cons,List.length_nil] at this ⊢
 omega

/-- the five numbers of a cell at its place, in memory -/
def gcObj (r c rs cs:Nat) (i:Int):Obj:=.cells #[.int .i64 r,.int .i64 c,.int .i64 rs,.int .i64 cs,.int .i64 i] 50

set_option maxRecDepth 100000 in
set_option maxHeartbeats 1000000 in
theorem slots1_in (l B:Nat) (r c rs cs:Nat) (iv:Int) (hr:r+rs≤1000) (hc:c+cs≤1000) (J Jx:List Sl→World→Prop)
  (hY:∀ pre x W,J pre W→pre.length < (rowsSl r c cs rs).length→YieldAt Fence.wide 2 Tryz.prog l #[slV x.1] W fun e W' =>
   (e=.returned (.bool true)∧J (pre ++ [x]) W'∧BoxK B W W')∨(e=.returned (.bool false)∧Jx (pre ++ [x]) W'))
  (W:World) (hB:W.heap[B]?=some (gcObj r c rs cs iv)) (h0:J [] W) :
  CallsIn Fence.wide 3 Tryz.prog 124 #[.func (.yield l) #[] #[],.pointer (some ⟨B,0,none⟩)] W fun e W'=>(∃ v,e=.returned v) ∧
   ((∃ ys,ys=rowsSl r c cs rs∧J ys W')∨(∃ pre,pre <+: rowsSl r c cs rs∧Jx pre W')):=by
 have c0:W.cell? ⟨B,2,none⟩=some (.int .i64 rs):=by simp [World.cell?,hB,gcObj]
 refine callsIn_of_wp Tryz.func124 rfl trivial ?_ rfl
 simp only [Tryz.ntmps124,List.size_toArray,List.length_cons,List.length_nil,Nat.reduceAdd,Nat.reduceSub,Array.replicate_succ,Array.replicate_zero,List.push_toArray,List.append_toArray,List.nil_append,List.cons_append]
 gi_wp2
 gi_loopw [7] (fun i wr=>∃ d:Nat,i=.int .i64 d∧d≤rs∧wr.heap[B]?=some (gcObj r c rs cs iv)∧J (rowsSl r c cs d) wr) (fun i _=>rs+1 - (intOf i).toNat)
 case atStart=>exact ⟨0,rfl,by omega,hB,h0⟩
 case round =>
  obtain ⟨d,rfl,hd,hBr,hJ⟩:=hrel
  have c1:wr.cell? ⟨B,3,none⟩=some (.int .i64 cs):=by simp [World.cell?,hBr,gcObj]
  by_cases hlt:d < rs
  ·gi_wp2
   gi_loopw [12] (fun i wq=>∃ a:Nat,i=.int .i64 a∧a≤cs∧wq.heap[B]?=some (gcObj r c rs cs iv)∧J (rowsSl r c cs d ++ rowSl (r+d) c a) wq) (fun i _=>cs+1 - (intOf i).toNat)
   case atStart=>exact ⟨0,rfl,by omega,hBr,by simpa [rowSl] using hJ⟩
   case round =>
    obtain ⟨a,rfl,ha,hBq,hJq⟩:=hrel
    by_cases hla:a < cs
    ·have d0:wr.cell? ⟨B,0,none⟩=some (.int .i64 r):=by simp [World.cell?,hBq,gcObj]
     have d1:wr.cell? ⟨B,1,none⟩=some (.int .i64 c):=by simp [World.cell?,hBq,gcObj]
     have hx:(toSl (r+d) (c+a)).1=(r+d,c+a):=toSl_val (by omega)
     obtain ⟨fn,tmps,assign,body,hy,hR⟩:=hY _ (toSl (r+d) (c+a)) wr hJq (slots_len hlt hla)
     rw [hx] at hy
     dsimp only [slV] at hy
     clear hx
     have HP:=Hid.intro (slots_pre (r:=r) (c:=c) hlt hla)
     have HS:=Hid.intro (rowSl_succ (r+d) c a)
     have e1:((r+d:Nat):Int)=(r:Int)+d:=by omega
     have e2:((c+a:Nat):Int)=(c:Int)+a:=by omega
     simp only [e1,e2] at hy
     clear e1 e2
     gi_wp2
     refine hR.mono ?_
     rintro e W3 (⟨rfl,hJ3,hk3⟩ | ⟨rfl,hJx3⟩)
     ·have hB3:=Eq.trans hk3 hBq
      gi_wp2
      go_roundw
      case rel=>exact ⟨a+1,by go_num,by omega,hB3,by rw [HS.out,← List.append_assoc];exact hJ3⟩
      case measure=>simp [intOf];omega
     ·gi_wp2
      refine bodyPost_ret (results_none rfl _ _ _) rfl ?_
      exact ⟨⟨_,rfl⟩,.inr ⟨_,HP.out,hJx3⟩⟩
    ·have ea:Hid (a=cs):=Hid.intro (by omega)
     have HS:=Hid.intro (rowsSl_succ r c cs d)
     gi_wp2
     go_roundw
     case rel=>exact ⟨d+1,by go_num,by omega,hBq,by have h:=hJq;rw [ea.out] at h;rw [HS.out];exact h⟩
     case measure=>simp [intOf];omega
  ·have ed:Hid (d=rs):=Hid.intro (by omega)
   gi_wp2
   go_end0
   exact ⟨⟨_,rfl⟩,.inl ⟨_,rfl,by rw [← ed.out];exact hJ⟩⟩

/-- what the value that slotsOf hands back does, whatever loop goes over it -/
theorem slots_stops (B r c rs cs:Nat) (iv:Int) (hr:r+rs≤1000) (hc:c+cs≤1000) (w:World) (hBn:B < w.heap.size) (hb:w.heap[B]?=some (gcObj r c rs cs iv)) :
  SeqStopsK Fence.wide 3 Tryz.prog 124 #[.pointer (some ⟨B,0,none⟩)] (fun x:Sl=>#[slV x.1]) (BoxK B) (fun ys=>ys=rowsSl r c cs rs) (fun pre=>pre <+: rowsSl r c cs rs) (rowsSl r c cs rs).length w:=fun l J Jx W hW _ _ hY h0 =>
 slots1_in l B r c rs cs iv hr hc J Jx hY W ((hW.block B hBn).trans hb) h0
/-- the cell at its place, as it is handed in -/
def gcV (r c rs cs:Nat) (i:Int):Value:=.agg #[.int .i64 r,.int .i64 c,.int .i64 rs,.int .i64 cs,.int .i64 i]
set_option maxHeartbeats 400000 in
theorem slotsOf_any (r c rs cs:Nat) (i:Int) (w:World) :
  Calls Tryz.prog 101 #[gcV r c rs cs i] w fun e w'=>e=.returned (.func (.func 124) #[] #[.pointer (some ⟨w.heap.size,0,none⟩)])∧w'=w.alloc (gcObj r c rs cs i):=by
 unfold gcV gcObj
 go_enter Tryz.func101,Tryz.ntmps101
 go_wp2
 go_ret
 exact ⟨rfl,rfl⟩
end Go.Proofs.YtcbibdhlkdcmiafGreat
