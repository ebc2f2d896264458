/-
  PROVED HERE: how many cells the first rows of a table have: facts on lists.
-/
import Derived.Test.YtcbibdhlkdcmiaiGreatC12
import Derived.Test.YtcbibdhlkdcmiaiGreatC24
namespace Go.Proofs.YtcbibdhlkdcmiaiGreat
open Go.RowKit
theorem sum_take_succ {α:Type} (f:α→Nat) (l:List α) (k:Nat) (h:k < l.length):((l.take (k+1)).map f).sum=((l.take k).map f).sum+f l[k]:=by
 rw [List.take_succ_eq_append_getElem h,List.map_append,List.sum_append]
 simp only [List.map_cons,List.map_nil,List.sum_cons,List.sum_nil,Nat.add_zero]
theorem sum_take_le {α:Type} (f:α→Nat) (l:List α) (k:Nat):((l.take k).map f).sum≤(l.map f).sum:=by
 have h:(l.map f).sum=((l.take k).map f).sum+((l.drop k).map f).sum:=by
  conv=>lhs;rw [← List.take_append_drop k l,List.map_append,List.sum_append]
 omega
theorem totC_eq (cs:List C):totC cs=cs.length+szTo cs cs.length:=by
 unfold szTo
 rw [List.take_length]
 induction cs with
 | nil=>rfl
 | cons x r ih=>simp [totC] at ih ⊢;omega
theorem cnTo_succ {rs:List R} {k:Nat} (h:k < rs.length):cnTo rs (k+1)=cnTo rs k+(rs.getD k dR).cells.length:=by
 have e:rs.getD k dR=rs[k]:=by simp [List.getD,h]
 rw [e]
 exact sum_take_succ (fun x:R=>x.cells.length) rs k h
theorem cnTo_le (rs:List R) (k:Nat):cnTo rs k≤totR rs:=by
 have h1:=sum_take_le (fun x:R=>x.cells.length) rs k
 have h2:(rs.map (fun x:R=>x.cells.length)).sum≤totR rs:=by
  clear h1
  induction rs with
  | nil=>simp [totR]
  | cons x r ih=>have:=totC_eq x.cells;simp [totR];omega
 exact Nat.le_trans h1 h2
end Go.Proofs.YtcbibdhlkdcmiaiGreat
