/-
  PROVED HERE: what the program's TxtOk answers at every string: the Bool 'txtOkB', and the memory is left as it was. Also: 1 more texts of the same proof.
-/
import Derived.Test.YtggmjiddadjilalGreatRows
import Derived.ProofKit
import Derived.WalkLawsBesides
import Derived.WalkSpells
import Derived.Lib.Strings
set_option maxRecDepth 1000000
set_option maxHeartbeats 40000000
namespace Go.Proofs.YtggmjiddadjilalGreat
open Value (int)
open IntKind (i64)
open Go.RowKit
def ch (s:ByteArray) (i:Nat):Int:=if h:i < s.size then (s[i].toNat:Int) else 0
def z0B (s:ByteArray) (i:Nat):Bool:=decide ((ch s i=32->i ≠ 0/\i+1 ≠ s.size/\ch s (i - 1) ≠ 32)/\(ch s i ≠ 32->97<=ch s i/\ch s i<=122))
def zC (s:ByteArray):Bool:=decide (s.size<=30) && (List.range s.size).all (z0B s)
theorem z1u (s:ByteArray):zC s=true ↔ s.size<=30/\∀ i,i < s.size->z0B s i=true:=by
 simp [zC,List.all_eq_true]
theorem z6C {s:ByteArray} (h:¬ s.size<=30):zC s=false:=by simp [zC,h]
theorem z2Q {s:ByteArray} (i:Nat) (hi:i < s.size) (h:z0B s i=false):zC s=false:=by
 cases hb:zC s with
 | false=>rfl
 | true=>rw [((z1u s).1 hb).2 i hi] at h;cases h
theorem z4h {s:ByteArray} (h30:s.size<=30) (h:∀ i,i < s.size->z0B s i=true):zC s=true:=(z1u s).2 ⟨h30,h⟩
theorem z4V {s:ByteArray} {i:Nat} (h:i < s.size):ch s i=(s[i].toNat:Int):=by simp [ch,h]
theorem z9B {s:ByteArray} {k:Nat} (h:∀ j,j < k->z0B s j=true) (hk:z0B s k=true):∀ j,j < k+1->z0B s j=true:=by
 intro j hj
 rcases Nat.lt_or_eq_of_le (Nat.lt_succ_iff.1 hj) with h1 | h1
 ·exact h j h1
 ·rw [h1];exact hk
theorem zbw {s:ByteArray} (h:s.size=0):s.toList=[]:=by
 rw [Lib.toList_data];exact List.eq_nil_of_length_eq_zero (by simpa using h)
theorem zdv {s:ByteArray} (h:s.toList=[]):s.size=0:=by
 rw [Lib.toList_data] at h;have:=congrArg List.length h;simpa using this
theorem z1a {a b:Bool} (h:a=b):Ending.returned (.bool a)=.returned (.bool b):=by rw [h]
def bef (s:ByteArray) (k:Nat):Int:=if k=0 then 32 else ch s (k - 1)
def z3P (s:ByteArray) (j:Nat):Prop:=(ch s j=32->bef s j ≠ 32)/\(ch s j ≠ 32->97<=ch s j/\ch s j<=122)
theorem z7l {s:ByteArray} {k:Nat} (h:∀ j,j < k->z3P s j) (hk:z3P s k):∀ j,j < k+1->z3P s j:=by
 intro j hj
 rcases Nat.lt_or_eq_of_le (Nat.lt_succ_iff.1 hj) with h1 | h1
 ·exact h j h1
 ·rw [h1];exact hk
theorem z6D {s:ByteArray} (k:Nat) (hk:k < s.size) (h:¬ z3P s k):zC s=false:=by
 refine z2Q k hk ?_;unfold z3P bef at h;unfold z0B;rw [decide_eq_false_iff_not];intro ⟨h1,h2⟩;apply h;refine ⟨fun e=>?_,h2⟩;obtain ⟨a,_,c⟩:=h1 e;simp [a];exact c
theorem zaw {s:ByteArray} (h30:s.size<=30) (h:∀ j,j < s.size->z3P s j) (hz:s.size ≠ 0) (hl:bef s s.size ≠ 32):zC s=true:=by
 refine z4h h30 (fun i hi=>?_);have hg:=h i hi;unfold z3P bef at hg;unfold bef at hl;unfold z0B;rw [decide_eq_true_iff];refine ⟨fun e=>?_,hg.2⟩;have h1:=hg.1 e;by_cases i0:i=0
 ·simp [i0] at h1
 ·simp [i0] at h1;refine ⟨i0,fun he=>?_,h1⟩;rw [if_neg hz,<-he] at hl;simp at hl;exact hl e
theorem z99 {s:ByteArray} (hz:s.size=0):zC s=true:=z4h (by omega) (fun i hi=>by omega)
theorem z9C {s:ByteArray} (hz:s.size ≠ 0) (hl:bef s s.size=32):zC s=false:=by
 refine z2Q (s.size - 1) (by omega) ?_;unfold bef at hl;rw [if_neg hz] at hl;unfold z0B;rw [decide_eq_false_iff_not];intro ⟨h1,_⟩;exact (h1 hl).2.1 (by omega)
theorem zdw {s:ByteArray} {k:Nat} (h:k < s.size):bef s (k+1)=(s[k].toNat:Int):=by simp [bef,ch,h]
theorem z1f (s:ByteArray) (w:World) (hs:s.size<=maxLen) :
  Calls Tryz.prog 26 #[.string s] w fun e w'=>e=.returned (.bool (zC s))/\w'=w:=by
 unfold maxLen at hs;by_cases h30:s.size<=30
 ·go_enter Tryz.func26,Tryz.ntmps26;go_wp2;go_loop [3,4,10] (fun b _ i=>∃ (k:Nat) (B:Int),k<=s.size/\i=int i64 k/\b=.int .u8 B/\Hid (bef s k=B)/\Hid (∀ j,j < k->z3P s j)) (fun _ _ i=>s.size - (intOf i).toNat)
  case atStart=>exact ⟨0,32,Nat.zero_le _,rfl,rfl,rfl,fun j hj=>absurd hj (Nat.not_lt_zero _)⟩
  case round =>
   obtain ⟨k,B,hk,rfl,rfl,HBf,HA⟩:=hrel;by_cases hlt:k < s.size
   ·have hb:(s[k].toNat:Int) < 256:=(by have:=s[k].toNat_lt;omega);have HC:Hid (ch s k=(s[k].toNat:Int)):=z4V hlt;have HS:Hid (bef s (k+1)=(s[k].toNat:Int)):=zdw hlt;by_cases hc:(s[k].toNat:Int)=32
    ·have hc':((s[k].toNat:Int) == 32)=true:=beq_iff_eq.2 hc;have hc2:((s[k].toNat:Int) != 32)=false:=(by rw [bne,hc'];rfl);have HE:Hid (ch s k=32):=HC.out.trans hc;clear hc HC hb;by_cases hB:B=32
     ·as_aux_lemma =>
       have hB':(B == 32)=true:=beq_iff_eq.2 hB;have HF:Hid (zC s=false):=z6D k hlt (fun hg=>hg.1 HE.out (HBf.out.trans hB));clear hB HE HBf HA HS;go_wp2;go_ret;exact ⟨z1a HF.out.symm,rfl⟩
     ·as_aux_lemma =>
       have hB':(B == 32)=false:=beq_eq_false_iff_ne.2 hB;have HN:Hid (∀ j,j < k+1->z3P s j):=z7l HA.out ⟨fun _=>by rw [HBf.out];exact hB,fun hne=>absurd HE.out hne⟩;clear hB HE HBf HA;go_wp2
       go_round
       case rel=>exact ⟨k+1,_,by omega,by go_num,rfl,HS,HN⟩
       case measure=>simp [intOf];omega
    ·have hc':((s[k].toNat:Int) == 32)=false:=beq_eq_false_iff_ne.2 hc;have hc2:((s[k].toNat:Int) != 32)=true:=bne_iff_ne.2 hc;by_cases hr:97<=(s[k].toNat:Int)/\(s[k].toNat:Int)<=122
     ·as_aux_lemma =>
       have HN:Hid (∀ j,j < k+1->z3P s j):=z7l HA.out ⟨fun he=>absurd (HC.out.symm.trans he) hc,fun _=>by rw [HC.out];exact hr⟩;obtain ⟨hr1,hr2⟩:=hr;clear HC HA hc HBf;go_wp2
       go_round
       case rel=>exact ⟨k+1,_,by omega,by go_num,rfl,HS,HN⟩
       case measure=>simp [intOf];omega
     ·have HF:Hid (zC s=false):=z6D k hlt (fun hg=>hr (by have:=hg.2 (by rw [HC.out];exact hc);rw [HC.out] at this;exact this));clear HC HA hc HBf HS;by_cases hr1:97<=(s[k].toNat:Int)
      ·as_aux_lemma =>
        have hr2:¬ (s[k].toNat:Int)<=122:=(by omega);clear hr;go_wp2;go_ret;exact ⟨z1a HF.out.symm,rfl⟩
      ·as_aux_lemma =>
        clear hr;go_wp2;go_ret;exact ⟨z1a HF.out.symm,rfl⟩
   ·obtain rfl:k=s.size:=by omega
    by_cases hz:s.size=0
    ·have he:s.toList=[]:=zbw hz;have HF:Hid (zC s=true):=z99 hz;clear HBf HA;go_wp2;go_ret;exact ⟨z1a HF.out.symm,rfl⟩
    ·have he:¬ s.toList=[]:=fun h=>hz (zdv h);have he2:s.toList.isEmpty=false:=(by simpa using he);by_cases hB:B=32
     ·have hB':(B != 32)=false:=(by simp [hB]);have HF:Hid (zC s=false):=z9C hz (HBf.out.trans hB);clear HBf HA hB hz he;go_wp2;go_ret;exact ⟨z1a HF.out.symm,rfl⟩
     ·have hB':(B != 32)=true:=bne_iff_ne.2 hB;have HF:Hid (zC s=true):=zaw h30 HA.out hz (by rw [HBf.out];exact hB);clear HBf HA hB hz he;go_wp2;go_ret;exact ⟨z1a HF.out.symm,rfl⟩
 ·go_enter Tryz.func26,Tryz.ntmps26;go_wp2;go_ret;exact ⟨z1a (z6C h30).symm,rfl⟩
theorem z2h (s:ByteArray) (w:World) (hs:s.size<=maxLen) :
  Calls Tryz.prog 32 #[.string s] w fun e w'=>e=.returned (.bool (zC s))/\w'=w:=by
 unfold maxLen at hs;by_cases h30:s.size<=30
 ·go_enter Tryz.func32,Tryz.ntmps32;go_wp2;go_loop [3] (fun i=>∃ k:Nat,k<=s.size/\i=int i64 k/\∀ j,j < k->z0B s j=true) (fun i=>s.size - (intOf i).toNat)
  case atStart=>exact ⟨0,Nat.zero_le _,rfl,fun j hj=>absurd hj (Nat.not_lt_zero _)⟩
  case round =>
   obtain ⟨k,hk,rfl,hall0⟩:=hrel;have HA:Hid (∀ j,j < k->z0B s j=true):=hall0;clear hall0;by_cases hlt:k < s.size
   ·have hb:(s[k].toNat:Int) < 256:=(by have:=s[k].toNat_lt;omega);have HC:Hid (ch s k=(s[k].toNat:Int)):=z4V hlt;by_cases hc:(s[k].toNat:Int)=32
    ·have hc':((s[k].toNat:Int) == 32)=true:=beq_iff_eq.2 hc;have HE:Hid (ch s k=32):=HC.out.trans hc;clear hc HC hb;by_cases h0:k=0
     ·as_aux_lemma =>
       subst h0;have hbad:z0B s 0=false:=(by simp [z0B,HE.out]);have HB:Hid (zC s=false):=z2Q 0 hlt hbad;clear hbad HE HA;go_wp2;go_ret;exact ⟨z1a HB.out.symm,rfl⟩
     ·have h0':((k:Int) == 0)=false:=beq_eq_false_iff_ne.2 (by omega);by_cases h1:k+1=s.size
      ·as_aux_lemma =>
        have h1':((k:Int) == (s.size:Int) - 1)=true:=beq_iff_eq.2 (by omega);have hbad:z0B s k=false:=(by simp [z0B,HE.out,h1]);have HB:Hid (zC s=false):=z2Q k hlt hbad;clear hbad HE HA h1 h0;go_wp2;go_ret;exact ⟨z1a HB.out.symm,rfl⟩
      ·have h1':((k:Int) == (s.size:Int) - 1)=false:=beq_eq_false_iff_ne.2 (by omega);have hl2:k - 1 < s.size:=(by omega);have HP:Hid (ch s (k - 1)=(s[k - 1].toNat:Int)):=z4V hl2;by_cases hp:(s[k - 1].toNat:Int)=32
       ·as_aux_lemma =>
         have hp':((s[k - 1].toNat:Int) == 32)=true:=beq_iff_eq.2 hp;have hbad:z0B s k=false:=(by simp [z0B,HE.out,HP.out,hp]);have HB:Hid (zC s=false):=z2Q k hlt hbad;clear hbad HE HA HP hp;go_wp2;go_ret;exact ⟨z1a HB.out.symm,rfl⟩
       ·as_aux_lemma =>
         have hp':((s[k - 1].toNat:Int) == 32)=false:=beq_eq_false_iff_ne.2 hp;have hc2:((s[k].toNat:Int) != 32)=false:=(by rw [bne,hc'];rfl);have hgood:z0B s k=true:=(by simp [z0B,HE.out,HP.out,hp,h0,h1]);have HN:Hid (∀ j,j < k+1->z0B s j=true):=z9B HA.out hgood;clear hgood HE HA HP hp;go_wp2
         go_round
         case rel=>exact ⟨k+1,by omega,by go_num,HN.out⟩
         case measure=>simp [intOf];omega
    ·have hc':((s[k].toNat:Int) == 32)=false:=beq_eq_false_iff_ne.2 hc;have hc2:((s[k].toNat:Int) != 32)=true:=bne_iff_ne.2 hc;by_cases hr:97<=(s[k].toNat:Int)/\(s[k].toNat:Int)<=122
     ·as_aux_lemma =>
       obtain ⟨hr1,hr2⟩:=hr;have hgood:z0B s k=true:=(by simp [z0B,HC.out];omega);have HN:Hid (∀ j,j < k+1->z0B s j=true):=z9B HA.out hgood;clear hgood HC HA hc;go_wp2
       go_round
       case rel=>exact ⟨k+1,by omega,by go_num,HN.out⟩
       case measure=>simp [intOf];omega
     ·have hbad:z0B s k=false:=(by simp [z0B,HC.out];omega);have HB:Hid (zC s=false):=z2Q k hlt hbad;clear hbad HC HA hc;by_cases hr1:97<=(s[k].toNat:Int)
      ·as_aux_lemma =>
        have hr2:¬ (s[k].toNat:Int)<=122:=(by omega);clear hr;go_wp2;go_ret;exact ⟨z1a HB.out.symm,rfl⟩
      ·as_aux_lemma =>
        clear hr;go_wp2;go_ret;exact ⟨z1a HB.out.symm,rfl⟩
   ·go_wp2;go_ret;exact ⟨z1a (z4h h30 (fun i hi=>HA.out i (by omega))).symm,rfl⟩
 ·go_enter Tryz.func32,Tryz.ntmps32;go_wp2;go_ret;exact ⟨z1a (z6C h30).symm,rfl⟩
end Go.Proofs.YtggmjiddadjilalGreat
