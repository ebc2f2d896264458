/-
  PROVED HERE: how far a table's marks count; what stays of owned tables and boxes where others are marked: for the laws on edits. Also: what the laws' own markText and markTblCellS answer: cells that own their memory are marked with numbers, one behind the other; nothing else that was in memory is turned. Also: what the laws' own markTblColS, markTblRowS and markTblTable answer: a table that owns its memory is marked with numbers, one behind the other; what lies ahead of its memory or behind it is not turned. Also: what the laws' own markTblRowS and markTblTable answer: a table that owns its memory is marked with numbers, one behind the other; what lies ahead of its memory or behind it is not turned. Also: a region that draws its order, whose own operations only read and whose callees turn nothing that was in memory, may be walked once, in its text's order.
-/
import Derived.Test.YtggmjiddadjilaoD6
import Derived.Test.YtggmjiddadjilaoD4
import Derived.Test.YtggmjiddadjilaoD5
import Derived.Test.YtggmjiddadjilaoD1
import Derived.Laws.IdiomStrings
import Derived.WalkLawsBesides
import Derived.WalkSpells
import Derived.Deep.RegionWith
import Derived.Deep.QuietTactic
import Derived.BigQuiet
import Derived.Deep.Cut
namespace Go.Proofs.Ytggmjiddadjilao
open Go.RowKit

theorem kAt_tot (rs:List R) (k:Nat):∀ i,i≤rs.length→kAt rs k i≤k+11 * (i+rwTo rs i)
 | 0,_=>by show k≤_;omega
 | i+1,h=>by
  have ih:=kAt_tot rs k i (by omega)
  have e:=rwTo_succ (show i < rs.length by omega)
  have e2:=totC_eq (rs.getD i dR).cells
  show kAt rs k i+11 * (rs.getD i dR).cells.length+1≤_
  omega
theorem kEnd_tot {cols:List (Int × Int)} {ur:List (Value × R)} {t:T} (hc:cols=t.cols) (hu:ur.map (·.2)=t.rows) (h:totT t≤1048576):kEnd cols ur≤99999990:=by
 have hl:ur.length=t.rows.length:=by rw [← hu,List.length_map]
 have h1:=kAt_tot t.rows (1+2 * cols.length) t.rows.length (Nat.le_refl _)
 have h2:=totR_eq t.rows
 unfold kEnd
 rw [hu,hl]
 unfold totT at h
 rw [hc] at h1 ⊢
 omega
/-- a table of few rows and cells -/
structure SmT (t:T):Prop where
 cols:t.cols.length≤8
 rows:t.rows.length≤9
 cells:∀ i,i < t.rows.length→(t.rows.getD i dR).cells.length≤6
theorem kAt_sm {rs:List R} (h:∀ i,i < rs.length→(rs.getD i dR).cells.length≤6) (k:Nat):∀ i,i≤rs.length→kAt rs k i≤k+67 * i
 | 0,_=>by show k≤_;omega
 | i+1,hi=>by
  have ih:=kAt_sm h k i (by omega)
  have e:=h i (by omega)
  show kAt rs k i+11 * (rs.getD i dR).cells.length+1≤_
  omega
theorem kEnd_sm {cols:List (Int × Int)} {ur:List (Value × R)} {t:T} (hc:cols=t.cols) (hu:ur.map (·.2)=t.rows) (h:SmT t):kEnd cols ur≤99999990:=by
 have hl:ur.length=t.rows.length:=by rw [← hu,List.length_map]
 have h1:=kAt_sm h.cells (1+2 * cols.length) t.rows.length (Nat.le_refl _)
 have h2:=h.cols
 have h3:=h.rows
 unfold kEnd
 rw [hu,hl]
 rw [hc] at h1 ⊢
 omega
theorem smT_ok {t:T} (h:tblB t=true):SmT t:=by
 obtain ⟨h1,_,h3,h4⟩:=tbl_bounds h
 exact ⟨h1,by omega,fun i hi=>by have:=h4 i hi;omega⟩
theorem smT_z:SmT zT:=⟨by decide,by decide,fun i hi=>absurd hi (Nat.not_lt_zero _)⟩
theorem txM_z:TxM zT:=fun r hr=>absurd hr (by simp [zT])
theorem smT_set {t:T} (h:SmT t) {r:Nat} {cs:List C} (hc:cs.length≤6):SmT (setRow t r cs):=by
 refine ⟨h.cols,by rw [setRow,List.length_set];exact h.rows,fun i hi=>?_⟩
 rw [setRow,List.length_set] at hi
 show ((t.rows.set r ⟨cs,(t.rows.getD r dR).whole⟩).getD i dR).cells.length≤6
 by_cases e:r=i
 ·subst e
  simp [List.getD,hi]
  exact hc
 ·have:=h.cells i hi
  simp [List.getD,e,hi] at this ⊢
  exact this
theorem txM_set {t:T} (h:TxM t) {r:Nat} {cs:List C} (hc:∀ x ∈ cs,x.s.size≤maxLen):TxM (setRow t r cs):=by
 intro q hq x hx
 rcases List.mem_or_eq_of_mem_set hq with hm | rfl
 ·exact h q hm x hx
 ·exact hc x hx
theorem Out.kept {w W W':World} {n B D:Nat} (h:Below n w W) (k:Out B D W W') (hn:n≤B):Below n w W':=h.trans (k.below.mono hn)
theorem Out.box {W W':World} {B D b:Nat} {o:Obj} (h:W.heap[b]?=some o) (k:Out B D W W') (hd:b < B∨D≤b):W'.heap[b]?=some o:=by
 rcases hd with hd | hd
 ·exact (k.below.block b hd).trans h
 ·exact (k.block b hd (Array.getElem?_eq_some_iff.1 h).1).trans h
theorem box_kept {W W':World} {b:Nat} {o:Obj} (h:W.heap[b]?=some o) (k:Below W.heap.size W W'):W'.heap[b]?=some o:=(k.block b (Array.getElem?_eq_some_iff.1 h).1).trans h
/-- an owned table lies in memory -/
theorem OwnD.tbl {w:World} {B D:Nat} {vc vr:Value} {t:T} {ur:List (Value × R)} (h:OwnD w B D vc vr t.cols ur) (hu:ur.map (·.2)=t.rows) (hs:TxM t):TblAt w B (.agg #[vc,.int .i64 t.head,.int .i64 t.foot,vr,.int .i64 t.gap]) t :=
 ⟨vc,vr,rfl,h.1.at,by rw [← hu];exact h.2.1.atM (fun p hp=>hs p.2 (by rw [← hu];exact List.mem_map_of_mem hp))⟩
end Go.Proofs.Ytggmjiddadjilao
namespace Go.Proofs.Ytggmjiddadjilao
open Go.RowKit
set_option maxRecDepth 100000 in
set_option maxHeartbeats 1000000 in
theorem markText_big (k:Nat) (h0:0 < k) (hk:k≤99999999) (w:World) :
  Calls Try.prog 42 #[.int .i64 k] w fun e w'=>e=.returned (.string (mt k))∧Below w.heap.size w w':=by
 have hp:¬ (k:Int)≤0:=by omega
 go_enter Try.func42,Try.ntmps42
 go_wp2_with fail
 go_loopw [0,3] (fun q o W=>∃ (m:Nat) (out:ByteArray),q=.int .i64 m∧o=.string out∧digs m out=digs k ⟨#[]⟩∧(out.size=0∧m≤99999999∨out.size=1∧m≤9999999∨out.size=2∧m≤999999∨out.size=3∧m≤99999∨out.size=4∧m≤9999∨out.size=5∧m≤999∨out.size=6∧m≤99∨out.size=7∧m≤9∨out.size=8∧m≤0)∧Hid (Below w.heap.size w W)) (fun q _ _=>(intOf q).toNat)
 case atStart=>exact ⟨k,⟨#[]⟩,rfl,rfl,rfl,.inl ⟨rfl,hk⟩,Below.refl _ _⟩
 case round =>
  obtain ⟨m,out,rfl,rfl,hd,hsz,HB⟩:=hrel
  have HD:=Hid.intro hd
  clear hd
  by_cases hm:0 < m
  ·have hs:out.size≤7:=by omega
   have hmm:m≤99999999:=by omega
   have hcv:(convert 73 9 (.slice (some ⟨wr.heap.size,0,none⟩) 1 1)).run Try.prog (wr.alloc (.cells #[.int .u8 (48+(m:Int) % 10)] 5))=.ok (.string ⟨#[48+UInt8.ofNat (m % 10)]⟩) (wr.alloc (.cells #[.int .u8 (48+(m:Int) % 10)] 5)) :=
    run_convert_bytes_back _ _ _ 5 ⟨wr.heap.size,0,none⟩ 1 [48+UInt8.ofNat (m % 10)] Try.underlying73 Try.underlying5 Try.underlying9 (fun i hi=>by
     match i,hi with
     | 0,_=>simp [Addr.add,UInt8.toNat_add];omega)
   have hz1:¬ 9223372036854775807 < 1+out.size:=by omega
   have HE:Hid (digs m out=digs (m / 10) (⟨#[48+UInt8.ofNat (m % 10)]⟩ ++ out)):=by show _=_;rw [digs,if_neg (by omega)]
   have hsn:(ByteArray.mk #[48+UInt8.ofNat (m % 10)] ++ out).size=1+out.size:=by rw [ByteArray.size_append];rfl
   have hq:((ByteArray.mk #[48+UInt8.ofNat (m % 10)] ++ out).size=0∧m / 10≤99999999∨(ByteArray.mk #[48+UInt8.ofNat (m % 10)] ++ out).size=1∧m / 10≤9999999∨(ByteArray.mk #[48+UInt8.ofNat (m % 10)] ++ out).size=2∧m / 10≤999999∨(ByteArray.mk #[48+UInt8.ofNat (m % 10)] ++ out).size=3∧m / 10≤99999∨(ByteArray.mk #[48+UInt8.ofNat (m % 10)] ++ out).size=4∧m / 10≤9999∨(ByteArray.mk #[48+UInt8.ofNat (m % 10)] ++ out).size=5∧m / 10≤999∨(ByteArray.mk #[48+UInt8.ofNat (m % 10)] ++ out).size=6∧m / 10≤99∨(ByteArray.mk #[48+UInt8.ofNat (m % 10)] ++ out).size=7∧m / 10≤9∨(ByteArray.mk #[48+UInt8.ofNat (m % 10)] ++ out).size=8∧m / 10≤0):=by rw [hsn];omega
   have HQ:=Hid.intro hq
   clear hq hsz
   go_wp2
   go_roundw
   case rel=>exact ⟨m / 10,_,by go_num,rfl,by rw [← HE.out];exact HD.out,HQ.out,k_alloc HB.out _⟩
   case measure=>simp [intOf];omega
  ·obtain rfl:m=0:=by omega
   have hs:out.size≤8:=by omega
   have HE:Hid (digs 0 out=out):=by show _=_;rw [digs,if_pos rfl]
   have hz1:¬ 9223372036854775807 < 1+out.size:=by omega
   clear hsz
   go_wp2
   go_ret
   exact ⟨by rw [mt,← HD.out,HE.out];rfl,HB.out⟩

set_option maxRecDepth 100000 in
set_option maxHeartbeats 2000000 in
theorem markTblCellS_any (u:Value) (cs:List C) (k0:Nat) (h0:0 < k0) (hb:k0+11 * cs.length≤99999990) (B:Nat) (w:World) (h:OwnC w B u cs) :
  Calls Try.prog 92 #[u,.int .i64 k0] w fun e w'=>e=.returned (.int .i64 ((k0+11 * cs.length:Nat):Int))∧OwnC w' B u (mkCs cs.length k0)∧w.grownBy w' u.ownBlock:=by
 rcases h.2 with ⟨rfl,hn⟩ | ⟨g,cap,cur,rfl,hg,hc,h1,h2,h3,h4⟩
 ·obtain rfl:cs=[]:=List.length_eq_zero_iff.1 hn
  go_enter Try.func92,Try.ntmps92
  go_wp2_with fail
  go_loopw [1,5] (fun q i W=>q=.int .i64 k0∧i=.int .i64 0∧W=w) (fun _ _ _=>0)
  case atStart=>exact ⟨rfl,rfl,rfl⟩
  case round =>
   obtain ⟨rfl,rfl,rfl⟩:=hrel
   go_wp2
   go_ret
   exact ⟨rfl,⟨rfl,.inl ⟨rfl,rfl⟩⟩,grown_refl _ _⟩
 ·have HC:=Hid.intro hc
  have hgl:g < w.heap.size:=(Array.getElem?_eq_some_iff.1 hc).1
  clear h h4 hc
  generalize hN:cs.length=n at *
  clear hN
  have hcap:n * 11≤cap * 11:=Nat.mul_le_mul_right 11 h1
  go_enter Try.func92,Try.ntmps92
  go_wp2_with fail
  go_loopw [1,5] (fun q i W=>∃ (k b:Nat) (arr:Array Value),k≤n∧i=.int .i64 k∧q=.int .i64 b∧Hid (b=k0+11 * k)∧Hid (W.heap[g]?=some (.cells arr 62))∧arr.size=cap * 11∧Hid (∀ i,i < k→CellArr arr (i * 11) (mkC (k0+11 * i)))∧Hid (w.grownBy W (some g))) (fun _ i _=>n - (intOf i).toNat)
  case atStart=>exact ⟨0,k0,cur,Nat.zero_le _,rfl,rfl,rfl,HC,h3,fun i hi=>absurd hi (Nat.not_lt_zero i),grown_refl _ _⟩
  case round =>
   obtain ⟨k,b,arr,hk,rfl,rfl,HE,HBk,hsz,HA,HG⟩:=hrel
   by_cases hlt:k < n
   ·have hbb:0 < b∧b≤99999979:=by rw [HE.out];omega
    have HN:=Hid.intro (put11_nextF (f:=fun i=>mkC (k0+11 * i)) (n:=cap) (by omega) (by omega) HA.out)
    have HM:=Hid.intro (markText_big b hbb.1 (by omega))
    unfold maxLen at h2
    go_wp2_with fail
    refine (HM.out _).mono ?_
    rintro e w1 ⟨rfl,hb1⟩
    have B1:=(hb1.block g (Array.getElem?_eq_some_iff.1 HBk.out).1).trans HBk.out
    obtain ⟨y0,q0⟩:=someB (p:=k * 11) B1 (by omega)
    obtain ⟨y1,q1⟩:=someB (p:=k * 11+1) B1 (by omega)
    obtain ⟨y2,q2⟩:=someB (p:=k * 11+2) B1 (by omega)
    obtain ⟨y3,q3⟩:=someB (p:=k * 11+3) B1 (by omega)
    obtain ⟨y4,q4⟩:=someB (p:=k * 11+4) B1 (by omega)
    obtain ⟨y5,q5⟩:=someB (p:=k * 11+5) B1 (by omega)
    obtain ⟨y6,q6⟩:=someB (p:=k * 11+6) B1 (by omega)
    obtain ⟨y7,q7⟩:=someB (p:=k * 11+7) B1 (by omega)
    obtain ⟨y8,q8⟩:=someB (p:=k * 11+8) B1 (by omega)
    obtain ⟨y9,q9⟩:=someB (p:=k * 11+9) B1 (by omega)
    obtain ⟨y10,q10⟩:=someB (p:=k * 11+10) B1 (by omega)
    have fz:∀ p,w1.frozen? ⟨g,p,none⟩=false:=fun p=>freeB B1
    have HB1:=Hid.intro B1
    have HG1:=Hid.intro (grown_trans HG.out (grown_below hb1))
    have HNe:Hid (mkC (k0+11 * k)=mkC b):=by rw [HE.out];exact rfl
    have HE2:Hid (b+11=k0+11 * (k+1)):=by show _=_;rw [HE.out];omega
    clear B1 hb1 HA HG HBk HM HE
    go_wp2
    go_roundw
    case rel=>exact ⟨k+1,b+11,put11 arr (k * 11) (mkC b),by omega,by go_num,by go_num,HE2,setB (setB (setB (setB (setB (setB (setB (setB (setB (setB (setB HB1.out _) _) _) _) _) _) _) _) _) _) _,by rw [put11_size];exact hsz,by rw [← HNe.out];exact HN,grown_set (grown_set (grown_set (grown_set (grown_set (grown_set (grown_set (grown_set (grown_set (grown_set (grown_set HG1.out rfl _) rfl _) rfl _) rfl _) rfl _) rfl _) rfl _) rfl _) rfl _) rfl _) rfl _⟩
    case measure=>simp [intOf];omega
   ·obtain rfl:k=n:=by omega
    have HE2:Hid ((b:Int)=((k0+11 * k:Nat):Int)):=by show _=_;rw [HE.out]
    clear HE
    go_wp2
    go_ret
    refine ⟨congrArg (fun x:Int=>Ending.returned (Value.int .i64 x)) HE2.out,?_,HG.out⟩
    have e:=own_take (arr:=arr) (cs:=mkCs k k0) (by rw [mkCs_len];omega) (fun i hi=>by rw [mkCs_len] at hi;rw [mkCs_get hi];exact HA.out i hi)
    rw [mkCs_len] at e
    exact ⟨by rw [flat_len cellVs 11 (fun _=>rfl)],.inr ⟨g,cap,arr,by rw [mkCs_len],hg,HBk.out,by rw [mkCs_len];exact h1,h2,hsz,by rw [mkCs_len];exact e⟩⟩
end Go.Proofs.Ytggmjiddadjilao
namespace Go.Proofs.Ytggmjiddadjilao
open Go.RowKit
set_option maxRecDepth 100000 in
set_option maxHeartbeats 2000000 in
theorem markTblColS_any (u:Value) (ps:List (Int × Int)) (k0:Nat) (hb:k0+2 * ps.length≤99999990) (B:Nat) (w:World) (h:OwnCol w B u ps) :
  Calls Try.prog 61 #[u,.int .i64 k0] w fun e w'=>e=.returned (.int .i64 ((k0+2 * ps.length:Nat):Int))∧OwnCol w' B u (mkCols ps.length k0)∧w.grownBy w' u.ownBlock:=by
 rcases h.2 with ⟨rfl,hn⟩ | ⟨g,cap,cur,rfl,hg,hc,h1,h2,h3,h4⟩
 ·obtain rfl:ps=[]:=List.length_eq_zero_iff.1 hn
  go_enter Try.func61,Try.ntmps61
  go_wp2_with fail
  go_loopw [1,5] (fun q i W=>q=.int .i64 k0∧i=.int .i64 0∧W=w) (fun _ _ _=>0)
  case atStart=>exact ⟨rfl,rfl,rfl⟩
  case round =>
   obtain ⟨rfl,rfl,rfl⟩:=hrel
   go_wp2
   go_ret
   exact ⟨rfl,⟨rfl,.inl ⟨rfl,rfl⟩⟩,grown_refl _ _⟩
 ·have HC:=Hid.intro hc
  have hgl:g < w.heap.size:=(Array.getElem?_eq_some_iff.1 hc).1
  clear h h4 hc
  generalize hN:ps.length=n at *
  clear hN
  have hcap:n * 2≤cap * 2:=Nat.mul_le_mul_right 2 h1
  go_enter Try.func61,Try.ntmps61
  go_wp2_with fail
  go_loopw [1,5] (fun q i W=>∃ (k b:Nat) (arr:Array Value),k≤n∧i=.int .i64 k∧q=.int .i64 b∧Hid (b=k0+2 * k)∧Hid (W.heap[g]?=some (.cells arr 120))∧arr.size=cap * 2∧Hid (ColArrF arr (fun i=>mkCol (k0+2 * i)) k)∧Hid (w.grownBy W (some g))) (fun _ i _=>n - (intOf i).toNat)
  case atStart=>exact ⟨0,k0,cur,Nat.zero_le _,rfl,rfl,rfl,HC,h3,fun i hi=>absurd hi (Nat.not_lt_zero i),grown_refl _ _⟩
  case round =>
   obtain ⟨k,b,arr,hk,rfl,rfl,HE,HBk,hsz,HA,HG⟩:=hrel
   by_cases hlt:k < n
   ·have hbb:b≤99999988:=by rw [HE.out];omega
    have hN:=HA.out.next (n:=cap) hsz (by omega)
    have hNe:mkCol (k0+2 * k)=((b:Int),(b:Int)+1):=by rw [← HE.out];rfl
    rw [hNe] at hN
    have HN:=Hid.intro hN
    unfold maxLen at h2
    obtain ⟨y0,q0⟩:=someB (p:=k * 2) HBk.out (by omega)
    obtain ⟨y1,q1⟩:=someB (p:=k * 2+1) HBk.out (by omega)
    have fz:∀ p,wr.frozen? ⟨g,p,none⟩=false:=fun p=>freeB HBk.out
    have HE2:Hid (b+2=k0+2 * (k+1)):=by show _=_;rw [HE.out];omega
    clear HA HE hN hNe
    go_wp2
    go_roundw
    case rel=>exact ⟨k+1,b+2,_,by omega,by go_num,by go_num,HE2,setB (setB HBk.out _) _,by rw [Array.size_setIfInBounds,Array.size_setIfInBounds];exact hsz,HN,grown_set (grown_set HG.out rfl _) rfl _⟩
    case measure=>simp [intOf];omega
   ·obtain rfl:k=n:=by omega
    have HE2:Hid ((b:Int)=((k0+2 * k:Nat):Int)):=by show _=_;rw [HE.out]
    clear HE
    go_wp2
    go_ret
    refine ⟨congrArg (fun x:Int=>Ending.returned (Value.int .i64 x)) HE2.out,?_,HG.out⟩
    have e:=own_colsT (arr:=arr) (ps:=mkCols k k0) (by rw [mkCols_len];omega) (fun i hi=>by rw [mkCols_len] at hi;dsimp only;rw [mkCols_get hi];exact HA.out i hi)
    rw [mkCols_len] at e
    exact ⟨by rw [flat_len colVs 2 (fun _=>rfl)],.inr ⟨g,cap,arr,by rw [mkCols_len],hg,HBk.out,by rw [mkCols_len];exact h1,h2,hsz,by rw [mkCols_len];exact e⟩⟩
end Go.Proofs.Ytggmjiddadjilao
namespace Go.Proofs.Ytggmjiddadjilao
open Go.RowKit
set_option maxRecDepth 100000 in
set_option maxHeartbeats 2000000 in
theorem markTblRowS_any (v:Value) (ur:List (Value × R)) (k0:Nat) (h0:0 < k0) (hb:kAt (ur.map (·.2)) k0 ur.length≤99999990) (B D:Nat) (w:World) (h:OwnR w B v ur) (hvD:∀ b,v.ownBlock=some b→b < D) (hD:∀ p ∈ ur,∀ b,p.1.ownBlock=some b→b < D) :
  Calls Try.prog 62 #[v,.int .i64 k0] w fun e w'=>e=.returned (.int .i64 ((kAt (ur.map (·.2)) k0 ur.length:Nat):Int))∧OwnR w' B v (mkU ur k0 ur.length)∧Out B D w w'∧Kty w w':=by
 obtain ⟨a,cap,hv,hlen⟩:=row_form h.own
 subst hv
 have HO:=Hid.intro h
 have HbM:=Hid.intro hb
 clear h hb
 unfold maxLen at hlen
 go_enter Try.func62,Try.ntmps62
 go_wp2_with fail
 go_loopw [1,5] (fun q i W=>∃ (k b:Nat),k≤ur.length∧i=.int .i64 k∧q=.int .i64 b∧Hid (b=kAt (ur.map (·.2)) k0 k)∧Hid (OwnR W B (.slice a ur.length cap) (mkU ur k0 k))∧Hid (Out B D w W)∧Hid (Kty w W)) (fun _ i _=>ur.length - (intOf i).toNat)
 case atStart=>exact ⟨0,k0,Nat.zero_le _,rfl,rfl,rfl,HO,Out.refl _ _ _,Kty.refl _⟩
 case round =>
  obtain ⟨k,b,hk,rfl,rfl,HE,HR,HG,HT⟩:=hrel
  by_cases hlt:k < ur.length
  ·have hge:ur[k]?=some ur[k]:=List.getElem?_eq_getElem hlt
   have hgM:(mkU ur k0 k)[k]?=some ur[k]:=(mkU_old ur k0 k k (Nat.le_refl _)).trans hge
   have hpD:=hD ur[k] (List.getElem_mem hlt)
   obtain ⟨g,cap',cur,e',hc1,hc2,hgl,hgB,hcur,hsz,hx0,hx1⟩:=own_get HR.out hgM
   rw [mkU_len] at e' hc1
   simp only [Value.slice.injEq,true_and] at e'
   obtain ⟨rfl,rfl⟩:=e'
   have hC:=HR.out.cells ur[k] (List.mem_of_getElem? hgM)
   have hkn:kAt (ur.map (·.2)) k0 (k+1)=b+11 * ur[k].2.cells.length+1:=by
    rw [kAt,map_snd_get hge,HE.out]
   have hkm:=kAt_mono (ur.map (·.2)) k0 (k+1) ur.length hlt
   have hk0:=kAt_mono (ur.map (·.2)) k0 0 k (Nat.zero_le _)
   rw [hkn] at hkm
   rw [← HE.out] at hk0
   have hb2:b+11 * ur[k].2.cells.length+1≤99999990:=Nat.le_trans hkm HbM.out
   have hb0:0 < b:=Nat.lt_of_lt_of_le h0 hk0
   have HN:Hid (mkU ur k0 (k+1)=(mkU ur k0 k).set k (ur[k].1,⟨mkCs ur[k].2.cells.length b,decide ((b+11 * ur[k].2.cells.length) % 3=0)⟩)):=by
    show _=_
    rw [mkU,show ur.getD k dU=ur[k] by simp [List.getD,hlt],← HE.out]
    rfl
   have HM:=Hid.intro (markTblCellS_any ur[k].1 ur[k].2.cells b hb0 (by omega) B wr hC)
   have HEn:Hid (b+11 * ur[k].2.cells.length+1=kAt (ur.map (·.2)) k0 (k+1)):=hkn.symm
   have hlc:ur[k].2.cells.length≤9999999:=by omega
   have HgM:=Hid.intro hgM
   clear hge hgM hkn hkm hk0 HE hC
   generalize ur[k]=p at HN HM HEn hb2 hx0 hx1 hpD HgM hlc
   generalize hmc:p.2.cells.length=n at HN HM HEn hb2 hlc
   have Hmc:=Hid.intro hmc
   clear hmc
   have HBsz:Hid (B≤wr.heap.size):=Nat.le_trans hgB (Nat.le_of_lt hgl)
   have hg1:g < D:=hvD g rfl
   have L0:=(cellB hcur).trans hx0
   obtain ⟨pa,pcap,hpf,_⟩:=row_form (HR.out.cells p (List.mem_of_getElem? HgM.out))
   rw [hpf] at L0
   have HM':=HM
   rw [hpf] at HM'
   have Hpf:=Hid.intro hpf
   have Hcur:=Hid.intro hcur
   have Hne:=Hid.intro (row_ne_block (HR.out.cells p (List.mem_of_getElem? HgM.out)) hcur (by decide))
   clear hcur hx0 HM hpf
   go_wp2_with fail
   refine HM'.out.mono ?_
   rintro e w1 ⟨rfl,hC1,hG1⟩
   have B1:w1.heap[g]?=some (.cells cur 88):=(hG1.block g hgl (fun e=>by
    have:=Hne.out
    rw [Hpf.out] at this
    rcases this with h | h
    ·rw [h] at e;cases e
    ·exact h e.symm)).trans Hcur.out
   obtain ⟨y1,q1⟩:=someB (p:=k * 2+1) B1 (by omega)
   have fz:∀ p,w1.frozen? ⟨g,p,none⟩=false:=fun p=>freeB B1
   have hG1':wr.grownBy w1 p.1.ownBlock:=by rw [Hpf.out];exact hG1
   have hC1':OwnC w1 B p.1 (mkCs n b):=by rw [Hpf.out];exact hC1
   have HR1:=Hid.intro (HR.out.mark (g:=g) (cap:=cap) (by rw [mkU_len]) HgM.out (r:=⟨mkCs n b,decide ((b+11 * n) % 3=0)⟩) hC1' hG1')
   have hO1:Out B D wr w1:=grown_out hG1' HBsz.out (fun b' e=>⟨(row_lt hC1' e).1,hpD b' e⟩)
   have HG1:=Hid.intro ((HG.out.trans hO1).set (p:=⟨g,k * 2+1,none⟩) hgB hg1 (.bool (decide ((b+11 * n) % 3=0))))
   have HT1:=Hid.intro ((HT.out.trans (Kty.cells (HR.out.cells p (List.mem_of_getElem? HgM.out)) hG1')).trans (Kty.set (o:=k * 2+1) B1 (.bool (decide ((b+11 * n) % 3=0)))))
   have hdec:(((b:Int)+11 * (n:Int)) % 3 == 0)=decide ((b+11 * n) % 3=0):=by
    rw [Bool.eq_iff_iff];simp;omega
   have hdec2:decide (((b:Int)+11 * (n:Int)) % 3=0)=decide ((b+11 * n) % 3=0):=by
    rw [Bool.eq_iff_iff];simp;omega
   generalize decide ((b+11 * n) % 3=0)=bb at HR1 HG1 HT1 hdec hdec2 HN
   clear hG1 hC1 hG1' hC1' hO1 B1 HR HG L0 HM' Hcur
   go_wp2
   go_roundw
   case rel=>exact ⟨k+1,b+11 * n+1,by omega,by go_num,by go_num,HEn,by rw [HN.out];exact HR1,HG1,HT1⟩
   case measure=>simp [intOf];omega
  ·obtain rfl:k=ur.length:=by omega
   have HE2:Hid ((b:Int)=((kAt (ur.map (·.2)) k0 ur.length:Nat):Int)):=by show _=_;rw [HE.out]
   clear HE
   go_wp2
   go_ret
   exact ⟨congrArg (fun x:Int=>Ending.returned (Value.int .i64 x)) HE2.out,HR.out,HG.out,HT.out⟩

set_option maxRecDepth 100000 in
set_option maxHeartbeats 2000000 in
theorem markTblTable_any (a1 a2:Option Addr) (c1 c2:Nat) (hd ft gp:Value) (cols:List (Int × Int)) (ur:List (Value × R)) (hb:kEnd cols ur≤99999990) (B D:Nat) (w:World) (h:OwnD w B D (.slice a1 cols.length c1) (.slice a2 ur.length c2) cols ur) (hDw:D≤w.heap.size) (hBD:B≤D) :
  Calls Try.prog 27 #[.agg #[.slice a1 cols.length c1,hd,ft,.slice a2 ur.length c2,gp],.int .i64 1] w fun e w'=>e=.returned (.int .i64 ((kEnd cols ur:Nat):Int))∧OwnD w' B D (.slice a1 cols.length c1) (.slice a2 ur.length c2) (mkCols cols.length 1) (mkU ur (1+2 * cols.length) ur.length)∧Out B D w w':=by
 have hX:=newestB w (.cells #[.slice a1 cols.length c1,hd,ft,.slice a2 ur.length c2,gp] 56)
 have hO:Out B D w (w.alloc (.cells #[.slice a1 cols.length c1,hd,ft,.slice a2 ur.length c2,gp] 56)):=(Out.refl _ _ _).alloc (by omega) _
 have hK:=k_alloc (Below.refl w.heap.size w) (.cells #[.slice a1 cols.length c1,hd,ft,.slice a2 ur.length c2,gp] 56)
 have hs0:(w.alloc (.cells #[.slice a1 cols.length c1,hd,ft,.slice a2 ur.length c2,gp] 56)).heap.size=w.heap.size+1:=by simp
 have hkm:=kAt_mono (ur.map (·.2)) (1+2 * cols.length) 0 ur.length (Nat.zero_le _)
 have hkc:1+2 * cols.length≤99999990:=Nat.le_trans hkm hb
 have HD:=Hid.intro h
 have HO:=Hid.intro hO
 have HX:=Hid.intro hX
 have HKb:=Hid.intro hK
 clear h hO hkm hX
 go_enter Try.func27,Try.ntmps27
 go_upto_region 1 with fail
 generalize w.alloc (.cells #[.slice a1 cols.length c1,hd,ft,.slice a2 ur.length c2,gp] 56)=W0 at HO HX HKb hs0 hK ⊢
 have z0:=cellB (p:=0) HX.out
 have HDk:=Hid.intro (HD.out.kept HKb.out)
 have HM:=Hid.intro (markTblColS_any (.slice a1 cols.length c1) cols 1 (by omega) B W0 HDk.out.1)
 clear hK
 go_wp2_with fail
 refine HM.out.mono ?_
 rintro e w1 ⟨rfl,hC1,hG1⟩
 have hO1:Out B D W0 w1:=grown_out hG1 (by omega) (fun b e=>⟨(row_lt hC1 e).1,HDk.out.2.2.1 b e⟩)
 have hX1:w1.heap[w.heap.size]?=some (.cells #[.slice a1 cols.length c1,hd,ft,.slice a2 ur.length c2,gp] 56):=(hO1.block w.heap.size hDw (by omega)).trans HX.out
 have z3:=cellB (p:=3) hX1
 have hne:∀ p ∈ ur,p.1.ownBlock=none∨p.1.ownBlock ≠ (Value.slice a1 cols.length c1).ownBlock:=fun p hp=>row_ne (HDk.out.2.1.cells p hp) HDk.out.1 (by decide)
 have hRne:=row_ne HDk.out.2.1.own HDk.out.1 (by decide)
 have hR1:OwnR w1 B (.slice a2 ur.length c2) ur:=HDk.out.2.1.off (Off.grown (b1:=none) hG1 (n:=0)) (Nat.zero_le _) (by rcases hb:(Value.slice a2 ur.length c2).ownBlock with _ | b;exact .inl rfl;exact .inr (by simp)) hRne (fun p hp=>⟨by rcases hb:p.1.ownBlock with _ | b;exact .inl rfl;exact .inr (by simp),hne p hp⟩)
 have HM2:=Hid.intro (markTblRowS_any (.slice a2 ur.length c2) ur (1+2 * cols.length) (by omega) hb B D w1 hR1 HDk.out.2.2.2.1 HDk.out.2.2.2.2)
 have HC1:=Hid.intro hC1
 have HO1:=Hid.intro (HO.out.trans hO1)
 have HR1:=Hid.intro hR1
 clear hC1 hG1 hO1 hX1 hne hRne hR1 HM z0
 go_wp2_with fail
 refine HM2.out.mono ?_
 rintro e w2 ⟨rfl,hR2,hO2,hT2⟩
 have HC2:Hid (OwnCol w2 B (.slice a1 cols.length c1) (mkCols cols.length 1)):=⟨HC1.out.1,HC1.out.2.elim Or.inl (fun ⟨g,cap,cur,e,hg,hc,q⟩=>Or.inr ⟨g,cap,cur,e,hg,hT2 g cur _ (by decide) (by decide) hc,q⟩)⟩
 have HR2:=Hid.intro hR2
 have HO2:=Hid.intro (HO1.out.trans hO2)
 clear hR2 hO2 HM2 z3 hT2
 go_wp2
 go_ret
 exact ⟨rfl,⟨HC2.out,HR2.out,HDk.out.2.2.1,HDk.out.2.2.2.1,fun p hp b e=>by
  obtain ⟨q,hq,e'⟩:=mkU_fst _ _ _ p hp
  exact HDk.out.2.2.2.2 q hq b (by rw [e'];exact e)⟩,HO2.out⟩
end Go.Proofs.Ytggmjiddadjilao
namespace Go.Proofs.Ytggmjiddadjilao
open Go.RowKit

/-- a world in which what was in memory is as it was -/
structure BW (w:World) where
 u:World
 h:Below w.heap.size w u
theorem bw_some (w:World):Nonempty (BW w):=⟨⟨w,Below.refl _ _⟩⟩
theorem wp_region_quiet_below {P:Program} {id:Nat} {Q:Exit→Act→World→Prop} {a:Act} {w:World} {l:List Oper} (hm:P.follows .mixedOrders=true) (hB:Region.lexB .any l.toArray=true)
  (h:wpQuiet P l.toArray (fun w'=>∃ p:BW w,w'=p.u) (fun a'=>∀ w',(∃ p:BW w,w'=p.u)→Q .normal a' w') l a):(Code.region id l.toArray true).wp P Q a w :=
 wp_region_quiet (C:=fun w'=>∃ p:BW w,w'=p.u) hm hB ⟨⟨_,k_drew (Below.refl _ _)⟩,rfl⟩ (by simpa using h)
theorem bw_of {P:Program} {f:FuncId} {args:Array Value} {w:World} {p:BW w} {v:Value} (h:Calls P f args p.u fun e w'=>e=.returned v∧Below p.u.heap.size p.u w') :
  Calls P f args p.u fun e w''=>e=.returned v∧∃ p:BW w,w''=p.u :=
 h.mono fun _ _ ⟨he,hb⟩=>⟨he,⟨_,k_trans p.h hb⟩,rfl⟩
theorem bw_cell {w:World} {a:Addr} {v:Value} (hb:a.block < w.heap.size) (h:w.cell? a=some v) (p:BW w):p.u.cell? a=some v:=(p.h.cell hb).trans h
end Go.Proofs.Ytggmjiddadjilao
