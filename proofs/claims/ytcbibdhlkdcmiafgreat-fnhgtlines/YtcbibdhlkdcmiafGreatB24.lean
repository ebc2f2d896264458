/-
  PROVED HERE: lists of texts in memory: they stay where what was in memory stays; put together with blanks. Also: lists of lists of texts in memory (the lines of each cell): they stay where what was in memory stays; one more behind the others. Also: lists of texts that own their memory, for the other texts of this claim. Also: a list that grows, whose elements are lists of texts, each in memory of its own: what is behind one more. Also: lists of numbers in memory, read (IntsAt) or in a block of their own (RowI), for the other texts of this claim. Also: what a list of numbers is that has just been made. Also: what the library's Repeat makes of one 1: as many as are asked, in memory of its own. Also: small facts on lists of numbers and their sums. Also: what the program's sum and ShrOk answer of lists of numbers in memory; nothing that was in memory is turned. Also: what is due, as numbers. Also: what a claim is, its three cells, and how two are held against each other.
-/
import Derived.Test.YtcbibdhlkdcmiafGreatB12
import Derived.Test.YtcbibdhlkdcmiafGreatB13
import Derived.WalkLawsBesides
import Derived.WalkSpells
import Derived.Deep.QuietTactic
import Derived.BigQuiet
import Derived.WideShapes
import Derived.Laws.AppendOwn
import Derived.Laws.CopyOwn
import Derived.Deep.RegionLaw
import Derived.Deep.RegionWith
import Derived.Shelf.Bits.Mul64
import Derived.Shelf.Lay
import Derived.Ground.NamesProg
import Derived.Shelf.SlSortCmp.KitK
namespace Go.Proofs.YtcbibdhlkdcmiafGreat
open Go.RowKit

def dS:ByteArray:=ByteArray.empty
def StrsAt (w:World) (z:Nat) (v:Value) (ss:List ByteArray):Prop:=At w z v ss.length 1 (fun i b o=>w.cell? ⟨b,o,none⟩=some (.string (ss.getD i dS))∧(ss.getD i dS).size≤maxLen)
theorem StrsAt.since {w w':World} {z:Nat} {v:Value} {ss:List ByteArray} (h:StrsAt w z v ss) (k:Since z w w'):StrsAt w' z v ss :=
 At.mono h k.size (Nat.le_refl _) (fun _ _ _ _ hb hz he=>⟨(k.cell hz hb _).trans he.1,he.2⟩)
theorem StrsAt.kept {w w':World} {z:Nat} {v:Value} {ss:List ByteArray} (h:StrsAt w z v ss) (k:Below w.heap.size w w'):StrsAt w' z v ss:=h.since (.of_below k)
def lnTo (ss:List ByteArray) (k:Nat):Nat:=((ss.take k).map (fun x=>x.size)).sum
theorem lnTo_succ {ss:List ByteArray} {k:Nat} (h:k < ss.length):lnTo ss (k+1)=lnTo ss k+(ss.getD k dS).size:=by
 have e:ss.getD k dS=ss[k]:=by simp [List.getD,h]
 rw [e]
 exact sum_take_succ (fun x:ByteArray=>x.size) ss k h
theorem lnTo_le (ss:List ByteArray) (k:Nat):lnTo ss k≤lnTo ss ss.length:=by
 have:=sum_take_le (fun x:ByteArray=>x.size) ss k
 unfold lnTo
 rw [List.take_length]
 exact this
def totS (ss:List ByteArray):Nat:=ss.length+lnTo ss ss.length

/-- the first k texts, with one blank between any two -/
def joinTo (ss:List ByteArray):Nat→ByteArray
 | 0=>⟨#[]⟩
 | k+1=>if k=0 then ss.getD 0 dS else joinTo ss k ++ ⟨#[32]⟩ ++ ss.getD k dS

theorem joinTo_size (ss:List ByteArray):∀ k,k≤ss.length→(joinTo ss k).size≤lnTo ss k+k
 | 0,_=>by simp [joinTo,lnTo];rfl
 | k+1,h=>by
  have ih:=joinTo_size ss k (by omega)
  have hs:=lnTo_succ (ss:=ss) (k:=k) (by omega)
  rw [joinTo]
  split
  ·rename_i h0
   subst h0
   omega
  ·rw [ByteArray.size_append,ByteArray.size_append]
   have:(ByteArray.mk #[32]).size=1:=rfl
   omega
end Go.Proofs.YtcbibdhlkdcmiafGreat
namespace Go.Proofs.YtcbibdhlkdcmiafGreat
open Go.RowKit

def LlsAt (w:World) (z:Nat) (v:Value) (ls:List (List ByteArray)):Prop:=At w z v ls.length 1 (fun i b o=>∃ u,w.cell? ⟨b,o,none⟩=some u∧StrsAt w z u (ls.getD i []))
theorem StrsAt.base {w:World} {z z':Nat} {v:Value} {ss:List ByteArray} (h:StrsAt w z v ss) (hz:z'≤z):StrsAt w z' v ss:=At.mono h (Nat.le_refl _) hz (fun _ _ _ _ _ _ he=>he)
theorem LlsAt.since {w w':World} {z:Nat} {v:Value} {ls:List (List ByteArray)} (h:LlsAt w z v ls) (k:Since z w w'):LlsAt w' z v ls :=
 At.mono h k.size (Nat.le_refl _) (fun _ _ _ _ hb hz ⟨u,h1,h2⟩=>⟨u,(k.cell hz hb _).trans h1,h2.since k⟩)
theorem LlsAt.kept {w w':World} {z:Nat} {v:Value} {ls:List (List ByteArray)} (h:LlsAt w z v ls) (k:Below w.heap.size w w'):LlsAt w' z v ls:=h.since (.of_below k)
theorem LlsAt.base {w:World} {z z':Nat} {v:Value} {ls:List (List ByteArray)} (h:LlsAt w z v ls) (hz:z'≤z):LlsAt w z' v ls:=At.mono h (Nat.le_refl _) hz (fun _ _ _ _ _ _ ⟨u,h1,h2⟩=>⟨u,h1,h2.base hz⟩)
/-- the lines at a place: for a walk -/
theorem LlsAt.get {w:World} {z:Nat} {v:Value} {ls:List (List ByteArray)} (h:LlsAt w z v ls) {i:Nat} (hi:i < ls.length):∃ b off cap u,v=.slice (some ⟨b,off,none⟩) ls.length cap∧ls.length≤cap∧cap≤maxLen∧b < w.heap.size∧w.cell? ⟨b,off+i,none⟩=some u∧StrsAt w z u (ls.getD i []):=by
 obtain ⟨b,off,cap,e,h1,h2,h3,u,h4,h5⟩:=At.get h hi
 rw [Nat.mul_one] at h4
 exact ⟨b,off,cap,u,e,h1,h2,h3,h4,h5⟩

/-- values in memory, each a list of texts: what a loop that makes lines keeps -/
def LlsOf (w:World) (z:Nat) (us:List Value) (ls:List (List ByteArray)):Prop:=us.length=ls.length∧∀ i,i < ls.length→StrsAt w z (us.getD i (.slice none 0 0)) (ls.getD i [])
theorem LlsOf.nil (w:World) (z:Nat):LlsOf w z [] []:=⟨rfl,fun i hi=>absurd hi (Nat.not_lt_zero i)⟩
theorem LlsOf.since {w w':World} {z:Nat} {us:List Value} {ls:List (List ByteArray)} (h:LlsOf w z us ls) (k:Since z w w'):LlsOf w' z us ls:=⟨h.1,fun i hi=>(h.2 i hi).since k⟩
theorem LlsOf.next {w:World} {z:Nat} {us:List Value} {ls:List (List ByteArray)} (h:LlsOf w z us ls) {u:Value} {l:List ByteArray} (hu:StrsAt w z u l):LlsOf w z (us ++ [u]) (ls ++ [l]):=by
 refine ⟨by rw [List.length_append,List.length_append,h.1];rfl,fun i hi=>?_⟩
 rw [List.length_append,List.length_singleton] at hi
 rcases Nat.lt_or_ge i ls.length with h1 | h1
 ·have e1:(us ++ [u]).getD i (.slice none 0 0)=us.getD i (.slice none 0 0):=by
   rw [List.getD_eq_getElem?_getD,List.getElem?_append_left (by rw [h.1];exact h1),← List.getD_eq_getElem?_getD]
  have e2:(ls ++ [l]).getD i []=ls.getD i []:=by
   rw [List.getD_eq_getElem?_getD,List.getElem?_append_left h1,← List.getD_eq_getElem?_getD]
  rw [e1,e2]
  exact h.2 i h1
 ·obtain rfl:i=ls.length:=by omega
  have e1:(us ++ [u]).getD ls.length (.slice none 0 0)=u:=by
   rw [List.getD_eq_getElem?_getD,List.getElem?_append_right (by rw [h.1];omega),h.1,Nat.sub_self];rfl
  have e2:(ls ++ [l]).getD ls.length []=l:=by
   rw [List.getD_eq_getElem?_getD,List.getElem?_append_right (Nat.le_refl _),Nat.sub_self];rfl
  rw [e1,e2]
  exact hu
end Go.Proofs.YtcbibdhlkdcmiafGreat
namespace Go.Proofs.YtcbibdhlkdcmiafGreat
open Go.RowKit

def eS:ByteArray:=ByteArray.empty
/-- a list of texts, in a block of its own, at B or behind it -/
def RowS (w:World) (B:Nat) (v:Value) (l:List ByteArray):Prop :=
 (v=.slice none 0 0∧l=[])∨∃ g cap cur,v=.slice (some ⟨g,0,none⟩) l.length cap∧B≤g∧w.heap[g]?=some (.cells cur 9 (0,0))∧l.length≤cap∧cap≤maxLen∧cur.size=cap∧∀ i,i < l.length→cur[i]?=some (.string (l.getD i eS))
theorem RowS.of_owns {w:World} {B:Nat} {v:Value} {l:List ByteArray} (h:w.ownsRow B 9 1 v l.length (l.map Value.string)):RowS w B v l:=by
 rcases h.2 with ⟨hv,h0⟩ | ⟨g,cap,cur,hv,hb,hg,h1,h2,h3,h4⟩
 ·exact .inl ⟨hv,List.eq_nil_of_length_eq_zero h0⟩
 ·refine .inr ⟨g,cap,cur,hv,hb,hg,h1,h2,by omega,fun i hi=>?_⟩
  have:cur.toList[i]?=(l.map Value.string)[i]?:=by rw [← h4,List.getElem?_take_of_lt (by omega)]
  rw [← Array.getElem?_toList,this]
  simp [List.getD,hi]
theorem RowS.below {w w':World} {B C:Nat} {v:Value} {l:List ByteArray} (h:RowS w B v l) (k:Below C w w') (hC:w.heap.size≤C):RowS w' B v l:=by
 rcases h with h | ⟨g,cap,cur,hv,hb,hg,r⟩
 ·exact .inl h
 ·exact .inr ⟨g,cap,cur,hv,hb,(k.block g (Nat.lt_of_lt_of_le (Array.getElem?_eq_some_iff.1 hg).1 hC)).trans hg,r⟩
theorem RowS.base {w:World} {B B':Nat} {v:Value} {l:List ByteArray} (h:RowS w B v l) (hB:B'≤B):RowS w B' v l:=by
 rcases h with h | ⟨g,cap,cur,hv,hb,r⟩
 ·exact .inl h
 ·exact .inr ⟨g,cap,cur,hv,Nat.le_trans hB hb,r⟩
theorem ownsRow_keptS {w w':World} {base size n:Nat} {e:TypeId} {v:Value} {xs:List Value} (h:w.ownsRow base e size v n xs) (hb:Below w.heap.size w w'):w'.ownsRow base e size v n xs :=
 ⟨h.1,h.2.elim Or.inl (fun ⟨g,cap,cur,hv,hg,hc,r⟩=>Or.inr ⟨g,cap,cur,hv,hg,(hb.block g (Array.getElem?_eq_some_iff.1 hc).1).trans hc,r⟩)⟩
theorem RowS.form {w:World} {B:Nat} {v:Value} {l:List ByteArray} (h:RowS w B v l):∃ a cap,v=.slice a l.length cap:=by
 rcases h with ⟨rfl,rfl⟩ | ⟨g,cap,cur,hv,_⟩
 ·exact ⟨none,0,rfl⟩
 ·exact ⟨_,_,hv⟩
theorem RowS.get {w:World} {B:Nat} {v:Value} {l:List ByteArray} (h:RowS w B v l) {i:Nat} (hi:i < l.length) :
  ∃ g cap,v=.slice (some ⟨g,0,none⟩) l.length cap∧B≤g∧g < w.heap.size∧l.length≤cap∧cap≤maxLen∧w.cell? ⟨g,i,none⟩=some (.string (l.getD i eS))∧w.frozen? ⟨g,i,none⟩=false:=by
 rcases h with ⟨_,rfl⟩ | ⟨g,cap,cur,hv,hb,hg,h1,h2,h3,h4⟩
 ·cases hi
 ·exact ⟨g,cap,hv,hb,(Array.getElem?_eq_some_iff.1 hg).1,h1,h2,(cellB hg).trans (h4 i hi),freeB hg⟩
theorem RowS.set {w:World} {B g cap n:Nat} {l:List ByteArray} (h:RowS w B (.slice (some ⟨g,0,none⟩) n cap) l) {i:Nat} (hi:i < l.length) (x:ByteArray):RowS (w.setCell ⟨g,i,none⟩ (.string x)) B (.slice (some ⟨g,0,none⟩) n cap) (l.set i x):=by
 rcases h with ⟨hv,_⟩ | ⟨g',cap',cur,hv,hb,hg,h1,h2,h3,h4⟩
 ·simp at hv
 ·simp only [Value.slice.injEq,Option.some.injEq,Addr.mk.injEq,and_true] at hv
  obtain ⟨rfl,rfl,rfl⟩:=hv
  refine .inr ⟨g,cap,cur.setIfInBounds i (.string x),by simp,hb,setB hg _,by simpa using h1,h2,by simpa using h3,fun j hj=>?_⟩
  rw [List.length_set] at hj
  by_cases e:i=j
  ·subst e
   simp [List.getD,hj,show i < cur.size by omega]
  ·rw [Array.getElem?_setIfInBounds_ne e,h4 j hj]
   simp [List.getD,e]
end Go.Proofs.YtcbibdhlkdcmiafGreat
namespace Go.Proofs.YtcbibdhlkdcmiafGreat
open Go.RowKit

theorem infoSs:(Tryz.prog.info? 51).map (fun i=>(i.zero,i.size,i.bytes))=some (some (Value.slice none 0 0),1,24):=by kernel_rfl
theorem strs_rowS {w:World} {B:Nat} {v:Value} {l:List ByteArray} (h:RowS w B v l) (hs:∀ x ∈ l,x.size≤maxLen):StrsAt w B v l:=by
 unfold StrsAt
 rcases h with ⟨rfl,rfl⟩ | ⟨g,cap,cur,hv,hb,hg,h1,h2,h3,h4⟩
 ·exact ⟨none,0,rfl,Nat.le_refl _,Nat.zero_le _,fun i hi=>absurd hi (Nat.not_lt_zero _)⟩
 ·refine ⟨some ⟨g,0,none⟩,cap,hv,h1,h2,fun i hi=>⟨g,0,rfl,(Array.getElem?_eq_some_iff.1 hg).1,hb,?_,?_⟩⟩
  ·rw [Nat.zero_add,Nat.mul_one,cellB hg,h4 i hi]
   rfl
  ·have:=hs l[i] (List.getElem_mem hi)
   simpa [List.getD,hi] using this
theorem RowS.grown {w w':World} {B base:Nat} {v U:Value} {l:List ByteArray} {m:Nat} {xs:List Value} (h:RowS w B v l) (hU:w.ownsRow base 51 1 U m xs) (k:w.grownBy w' U.ownBlock):RowS w' B v l:=by
 rcases h with h | ⟨g,cap,cur,hv,hb,hg,r⟩
 ·exact .inl h
 ·exact .inr ⟨g,cap,cur,hv,hb,blk_grown hg k (ne_of_own (row_ne_block hU hg (by decide))),r⟩
/-- values, each a list of texts in a block of its own -/
def RowSs (w:World) (B:Nat) (us:List Value) (ls:List (List ByteArray)):Prop:=us.length=ls.length∧∀ i,i < ls.length→RowS w B (us.getD i (.slice none 0 0)) (ls.getD i [])
theorem RowSs.nil (w:World) (B:Nat):RowSs w B [] []:=⟨rfl,fun i hi=>absurd hi (Nat.not_lt_zero i)⟩
theorem RowSs.kept {w w':World} {B:Nat} {us:List Value} {ls:List (List ByteArray)} (h:RowSs w B us ls) (k:Below w.heap.size w w'):RowSs w' B us ls:=⟨h.1,fun i hi=>(h.2 i hi).below k (Nat.le_refl _)⟩
theorem RowSs.grown {w w':World} {B base:Nat} {U:Value} {us:List Value} {ls:List (List ByteArray)} {m:Nat} {xs:List Value} (h:RowSs w B us ls) (hU:w.ownsRow base 51 1 U m xs) (k:w.grownBy w' U.ownBlock):RowSs w' B us ls:=⟨h.1,fun i hi=>(h.2 i hi).grown hU k⟩
theorem RowSs.next {w:World} {B:Nat} {us:List Value} {ls:List (List ByteArray)} (h:RowSs w B us ls) {u:Value} {l:List ByteArray} (hu:RowS w B u l):RowSs w B (us ++ [u]) (ls ++ [l]):=by
 refine ⟨by rw [List.length_append,List.length_append,h.1];rfl,fun i hi=>?_⟩
 rw [List.length_append,List.length_singleton] at hi
 rcases Nat.lt_or_ge i ls.length with h1 | h1
 ·have e1:(us ++ [u]).getD i (.slice none 0 0)=us.getD i (.slice none 0 0):=by
   rw [List.getD_eq_getElem?_getD,List.getElem?_append_left (by rw [h.1];exact h1),← List.getD_eq_getElem?_getD]
  have e2:(ls ++ [l]).getD i []=ls.getD i []:=by
   rw [List.getD_eq_getElem?_getD,List.getElem?_append_left h1,← List.getD_eq_getElem?_getD]
  rw [e1,e2]
  exact h.2 i h1
 ·obtain rfl:i=ls.length:=by omega
  have e1:(us ++ [u]).getD ls.length (.slice none 0 0)=u:=by
   rw [List.getD_eq_getElem?_getD,List.getElem?_append_right (by rw [h.1];omega),h.1,Nat.sub_self];rfl
  have e2:(ls ++ [l]).getD ls.length []=l:=by
   rw [List.getD_eq_getElem?_getD,List.getElem?_append_right (Nat.le_refl _),Nat.sub_self];rfl
  rw [e1,e2]
  exact hu
/-- all of it: a list of lists of texts in memory -/
theorem RowSs.lls {w:World} {B base z:Nat} {v:Value} {us:List Value} {ls:List (List ByteArray)} (h:RowSs w B us ls) (hO:w.ownsRow base 51 1 v us.length us) (hz:z≤base) (hzB:z≤B) (hs:∀ l ∈ ls,∀ x ∈ l,x.size≤maxLen):LlsAt w z v ls:=by
 unfold LlsAt
 have hul:=h.1
 rcases hO.2 with ⟨hv,h0⟩ | ⟨g,cap,cur,hv,hb,hg,h1,h2,h3,h4⟩
 ·exact ⟨none,0,by rw [← hul,h0];exact hv,by omega,Nat.zero_le _,fun i hi=>by omega⟩
 ·refine ⟨some ⟨g,0,none⟩,cap,by rw [← hul];exact hv,by omega,h2,fun i hi=>⟨g,0,rfl,(Array.getElem?_eq_some_iff.1 hg).1,by omega,us.getD i (.slice none 0 0),?_,?_⟩⟩
  ·have:cur.toList[i]?=us[i]?:=by rw [← h4,List.getElem?_take_of_lt (by omega)]
   rw [Nat.zero_add,Nat.mul_one,cellB hg,← Array.getElem?_toList,this]
   simp [List.getD,show i < us.length by omega]
  ·have hl:ls.getD i []=ls[i]:=by simp [List.getD,hi]
   exact (strs_rowS (h.2 i hi) (by rw [hl];exact hs _ (List.getElem_mem hi))).base hzB
end Go.Proofs.YtcbibdhlkdcmiafGreat
namespace Go.Proofs.YtcbibdhlkdcmiafGreat
open Go.RowKit

/-- a list of numbers that can be read -/
def IntsAt (w:World) (v:Value) (l:List Int):Prop :=
 ∃ (a:Option Addr) (cap:Nat),v=.slice a l.length cap∧l.length≤cap∧cap≤maxLen∧∀ i,i < l.length→∃ b off,a=some ⟨b,off,none⟩∧b < w.heap.size∧w.cell? ⟨b,off+i,none⟩=some (.int .i64 (l.getD i 0))
theorem IntsAt.form {w:World} {v:Value} {l:List Int} (h:IntsAt w v l):∃ a cap,v=.slice a l.length cap∧l.length≤9223372036854775807:=by
 obtain ⟨a,cap,hv,h1,h2,_⟩:=h
 unfold maxLen at h2
 exact ⟨a,cap,hv,by omega⟩
theorem IntsAt.get {w:World} {v:Value} {l:List Int} (h:IntsAt w v l) {i:Nat} (hi:i < l.length) :
  ∃ b off cap,v=.slice (some ⟨b,off,none⟩) l.length cap∧l.length≤cap∧cap≤maxLen∧b < w.heap.size∧w.cell? ⟨b,off+i,none⟩=some (.int .i64 (l.getD i 0)):=by
 obtain ⟨a,cap,hv,h1,h2,h3⟩:=h
 obtain ⟨b,off,rfl,h4,h5⟩:=h3 i hi
 exact ⟨b,off,cap,hv,h1,h2,h4,h5⟩
theorem IntsAt.kept {w w':World} {v:Value} {l:List Int} (h:IntsAt w v l) (k:Below w.heap.size w w'):IntsAt w' v l:=by
 obtain ⟨a,cap,hv,h1,h2,h3⟩:=h
 refine ⟨a,cap,hv,h1,h2,fun i hi=>?_⟩
 obtain ⟨b,off,h4,h5,h6⟩:=h3 i hi
 exact ⟨b,off,h4,Nat.lt_of_lt_of_le h5 k.size,(k.cell (p:=⟨b,off+i,none⟩) h5).trans h6⟩

/-- a list of numbers in a block of its own, at B or behind it, ahead of D -/
def RowI (w:World) (B D:Nat) (v:Value) (l:List Int):Prop :=
 (v=.slice none 0 0∧l=[])∨∃ g cap cur,v=.slice (some ⟨g,0,none⟩) l.length cap∧B≤g∧g < D∧w.heap[g]?=some (.cells cur 3 (0,0))∧l.length≤cap∧cap≤maxLen∧cur.size=cap∧∀ i,i < l.length→cur[i]?=some (.int .i64 (l.getD i 0))
theorem RowI.of_owns {w:World} {B:Nat} {v:Value} {l:List Int} (h:w.ownsRow B 3 1 v l.length (l.map (Value.int .i64))):RowI w B w.heap.size v l:=by
 rcases h.2 with ⟨hv,h0⟩ | ⟨g,cap,cur,hv,hb,hg,h1,h2,h3,h4⟩
 ·exact .inl ⟨hv,List.eq_nil_of_length_eq_zero h0⟩
 ·refine .inr ⟨g,cap,cur,hv,hb,(Array.getElem?_eq_some_iff.1 hg).1,hg,h1,h2,by omega,fun i hi=>?_⟩
  have:cur.toList[i]?=(l.map (Value.int .i64))[i]?:=by rw [← h4,List.getElem?_take_of_lt (by omega)]
  rw [← Array.getElem?_toList,this]
  simp [List.getD,hi]
theorem RowI.owns {w:World} {B D:Nat} {v:Value} {l:List Int} (h:RowI w B D v l):w.ownsRow B 3 1 v l.length (l.map (Value.int .i64)):=by
 refine ⟨by simp,?_⟩
 rcases h with ⟨hv,rfl⟩ | ⟨g,cap,cur,hv,hb,hd,hg,h1,h2,h3,h4⟩
 ·exact .inl ⟨hv,rfl⟩
 ·refine .inr ⟨g,cap,cur,hv,hb,hg,h1,h2,by omega,?_⟩
  apply List.ext_getElem?
  intro i
  by_cases hi:i < l.length
  ·rw [List.getElem?_take_of_lt (by omega),Array.getElem?_toList,h4 i hi]
   simp [List.getD,hi]
  ·rw [List.getElem?_eq_none (by simp;omega),List.getElem?_eq_none (by simp;omega)]
theorem RowI.at {w:World} {B D:Nat} {v:Value} {l:List Int} (h:RowI w B D v l):IntsAt w v l:=by
 rcases h with ⟨rfl,rfl⟩ | ⟨g,cap,cur,hv,hb,hd,hg,h1,h2,h3,h4⟩
 ·exact ⟨none,0,rfl,Nat.le_refl _,Nat.zero_le _,fun i hi=>absurd hi (Nat.not_lt_zero _)⟩
 ·exact ⟨_,cap,hv,h1,h2,fun i hi=>⟨g,0,rfl,(Array.getElem?_eq_some_iff.1 hg).1,by rw [Nat.zero_add];exact (cellB hg).trans (h4 i hi)⟩⟩
theorem RowI.kept {w w':World} {B D:Nat} {v:Value} {l:List Int} (h:RowI w B D v l) (k:∀ j,j < w.heap.size→B≤j→j < D→w'.heap[j]?=w.heap[j]?):RowI w' B D v l:=by
 rcases h with h | ⟨g,cap,cur,hv,hb,hd,hg,r⟩
 ·exact .inl h
 ·exact .inr ⟨g,cap,cur,hv,hb,hd,(k g (Array.getElem?_eq_some_iff.1 hg).1 hb hd).trans hg,r⟩
theorem RowI.below {w w':World} {B D C:Nat} {v:Value} {l:List Int} (h:RowI w B D v l) (k:Below C w w') (hC:D≤C):RowI w' B D v l :=
 h.kept (fun j _ _ h2=>k.block j (Nat.lt_of_lt_of_le h2 hC))
theorem RowI.base {w:World} {B B' D D':Nat} {v:Value} {l:List Int} (h:RowI w B D v l) (hB:B'≤B) (hD:D≤D'):RowI w B' D' v l:=by
 rcases h with h | ⟨g,cap,cur,hv,hb,hd,r⟩
 ·exact .inl h
 ·exact .inr ⟨g,cap,cur,hv,Nat.le_trans hB hb,Nat.lt_of_lt_of_le hd hD,r⟩
theorem RowI.form {w:World} {B D:Nat} {v:Value} {l:List Int} (h:RowI w B D v l):∃ a cap,v=.slice a l.length cap:=by
 rcases h with ⟨rfl,rfl⟩ | ⟨g,cap,cur,hv,_⟩
 ·exact ⟨none,0,rfl⟩
 ·exact ⟨_,_,hv⟩
theorem RowI.get {w:World} {B D:Nat} {v:Value} {l:List Int} (h:RowI w B D v l) {i:Nat} (hi:i < l.length) :
  ∃ g cap,v=.slice (some ⟨g,0,none⟩) l.length cap∧B≤g∧g < D∧g < w.heap.size∧l.length≤cap∧cap≤maxLen∧w.cell? ⟨g,i,none⟩=some (.int .i64 (l.getD i 0))∧w.frozen? ⟨g,i,none⟩=false:=by
 rcases h with ⟨_,rfl⟩ | ⟨g,cap,cur,hv,hb,hd,hg,h1,h2,h3,h4⟩
 ·cases hi
 ·exact ⟨g,cap,hv,hb,hd,(Array.getElem?_eq_some_iff.1 hg).1,h1,h2,(cellB hg).trans (h4 i hi),freeB hg⟩
theorem RowI.set {w:World} {B D g cap n:Nat} {l:List Int} (h:RowI w B D (.slice (some ⟨g,0,none⟩) n cap) l) {i:Nat} (hi:i < l.length) (x:Int):RowI (w.setCell ⟨g,i,none⟩ (.int .i64 x)) B D (.slice (some ⟨g,0,none⟩) n cap) (l.set i x):=by
 rcases h with ⟨hv,_⟩ | ⟨g',cap',cur,hv,hb,hd,hg,h1,h2,h3,h4⟩
 ·simp at hv
 ·simp only [Value.slice.injEq,Option.some.injEq,Addr.mk.injEq,and_true] at hv
  obtain ⟨rfl,rfl,rfl⟩:=hv
  refine .inr ⟨g,cap,cur.setIfInBounds i (.int .i64 x),by simp,hb,hd,setB hg _,by simpa using h1,h2,by simpa using h3,fun j hj=>?_⟩
  rw [List.length_set] at hj
  by_cases e:i=j
  ·subst e
   simp [List.getD,hj,show i < cur.size by omega]
  ·rw [Array.getElem?_setIfInBounds_ne e,h4 j hj]
   simp [List.getD,e]
/-- what lies ahead of B, or at D and behind it, is as it was -/
structure Out (B D:Nat) (w w':World):Prop where
 below:Below B w w'
 block:∀ k,D≤k→k < w.heap.size→w'.heap[k]?=w.heap[k]?
theorem Out.refl (B D:Nat) (w:World):Out B D w w:=⟨Below.refl _ _,fun _ _ _=>rfl⟩
theorem Out.set {B D:Nat} {a w:World} (h:Out B D a w) {p:Addr} (h1:B≤p.block) (h2:p.block < D) (v:Value):Out B D a (w.setCell p v) :=
 ⟨h.below.setCell h1 v,fun k h3 h4=>(Below.heap_setCell _ _ _ _ (by omega)).trans (h.block k h3 h4)⟩
theorem Out.drewN {B D:Nat} {a w:World} (h:Out B D a w) (n:Nat):Out B D a (w.drewN n):=⟨⟨h.below.os,h.below.tape,h.below.output,h.below.size,h.below.block⟩,h.block⟩
theorem RowI.out {w w':World} {B D B' D':Nat} {v:Value} {l:List Int} (h:RowI w B D v l) (k:Out B' D' w w') (hd:D≤B'∨D'≤B):RowI w' B D v l :=
 h.kept (fun j h0 h1 h2=>by rcases hd with hd | hd;exact k.below.block j (by omega);exact k.block j (by omega) h0)
end Go.Proofs.YtcbibdhlkdcmiafGreat
namespace Go.Proofs.YtcbibdhlkdcmiafGreat
open Go.RowKit

def newI (n:Nat):Array Value:=madeCells (Value.int .i64 0).cells (n * 1)
theorem newI_size (n:Nat):(newI n).size=n:=by rw [newI,size_madeCells];omega
theorem infoI:(Tryz.prog.info? 3).map (fun i=>(i.zero,i.size,i.bytes))=some (some (Value.int .i64 0),1,8):=by kernel_rfl
theorem makeI (n:Nat) (hn:n≤1048576) (u:World):(Instr.makeSlice 29 (.int .i64 (n:Int)) (.int .i64 (n:Int))).run Tryz.prog u=.ok (.slice (some ⟨u.heap.size,0,none⟩) n n) (u.alloc (.cells (newI n) 3)):=by
 obtain ⟨i0,hi,hz0,hz1,hz2⟩:=info_parts infoI
 have h:=run_make (P:=Tryz.prog) u 29 3 i0 _ Tryz.underlying29 hi hz0 .i64 .i64 (n:Int) (n:Int) (by omega) (Int.le_refl _) (by rw [hz2];omega) (by omega)
 rw [hz1,Int.toNat_natCast] at h
 exact h
end Go.Proofs.YtcbibdhlkdcmiafGreat
namespace Go.Proofs.YtcbibdhlkdcmiafGreat
open Go.RowKit Go.Shelf Go.Lib

shelf_lay Lays.n212 Nm 212 at Tryz as bitsMul
/-- the first k are 1 -/
def OnesTo (L:List Value) (k:Nat):Prop:=∀ i,i < k→L[i]?=some (.int .i64 1)
theorem ones_next {L:List Value} {k c:Nat} (h:OnesTo L k) (hc:k+c≤L.length):OnesTo (splice L k (List.replicate c (.int .i64 1))) (k+c):=by
 intro i hi
 unfold splice
 by_cases e:i < k
 ·rw [List.getElem?_append_left (by simp;omega),List.getElem?_take_of_lt e]
  exact h i e
 ·rw [List.getElem?_append_right (by simp;omega),List.getElem?_append_left (by simp;omega)]
  rw [List.getElem?_replicate,if_pos (by rw [List.length_take];omega)]
theorem uI:(Tryz.prog.info? 3).map (·.size)=some 1:=by kernel_rfl

set_option maxRecDepth 100000 in
set_option maxHeartbeats 2000000 in
theorem repeat_any (b n:Nat) (h1:1≤n) (hn:n≤100) (w:World) (hb:b < w.heap.size) (hx:w.cell? ⟨b,0,none⟩=some (.int .i64 1)) :
  Calls Tryz.prog 129 #[.slice (some ⟨b,0,none⟩) 1 1,.int .i64 n] w fun e w'=>∃ a cap,e=.returned (.slice a n cap)∧RowI w' w.heap.size w'.heap.size (.slice a n cap) (List.replicate n 1)∧Below w.heap.size w w':=by
 have hmul:=fun W=>Any.bits_Mul bitsMul 1 n (by omega) (by omega) W
 change ∀ W,Calls Tryz.prog 137 _ _ _ at hmul
 have em1:1 * n / 18446744073709551616=0:=by omega
 have em2:1 * n % 18446744073709551616=n:=by omega
 rw [em1,em2] at hmul
 have HM:=Hid.intro hmul
 have hmk:=makeI n (by omega)
 have hn0:¬ (n:Int) < 0:=by omega
 clear hmul em1 em2
 go_enter Tryz.func129,Tryz.ntmps129
 go_wp2_with fail
 refine (HM.out _).mono ?_
 rintro e w1 ⟨rfl,e1⟩
 cases e1
 have hcp:=run_copy_row (P:=Tryz.prog) (w.alloc (.cells (newI n) 3)) 29 29 3 3 w.heap.size 0 n n ⟨b,0,none⟩ 1 1 (newI n) 3 [.int .i64 1] Tryz.underlying29 uI (newestB _ _) (by simp [Nat.min_def];omega)
  (fun j v hv=>by
   match j,hv with
   | 0,hv=>simp at hv;subst hv;rw [show (⟨b,0,none⟩:Addr).add 0=⟨b,0,none⟩ from rfl];exact ((k_alloc (Below.refl w.heap.size w) _).cell (p:=⟨b,0,none⟩) hb).trans hx)
  (by rw [newI_size];simp;omega) (fun v hv=>by simp at hv;subst hv;rfl)
 obtain ⟨w2,hw2⟩:∃ w2,w2=(w.alloc (.cells (newI n) 3)).setRow w.heap.size ((newI n).toList.take 0 ++ [Value.int .i64 1] ++ (newI n).toList.drop (0+[Value.int .i64 1].length)).toArray:=⟨_,rfl⟩
 rw [← hw2] at hcp
 have HG:Hid (w2.heap[w.heap.size]?=some (.cells (splice (newI n).toList 0 [.int .i64 1]).toArray 3 (0,0))):=by
  rw [hw2]
  show _=_
  rw [setRow_heap _ _ _ _ _ _ (newestB _ _)]
  simp [splice]
 have hB:Below w.heap.size w w2:=by rw [hw2];exact below_setRow (k_alloc (Below.refl _ _) _) (Nat.le_refl _) _
 clear hw2
 go_wp2_with fail
 clear hcp
 have HB:=Hid.intro hB
 have HO:Hid (OnesTo (splice (newI n).toList 0 [.int .i64 1]) 1):=by
  have:=ones_next (L:=(newI n).toList) (k:=0) (c:=1) (fun i hi=>absurd hi (Nat.not_lt_zero _)) (by rw [Array.length_toList,newI_size];omega)
  exact this
 have hL0:(newI n).toList.length=n:=by rw [Array.length_toList,newI_size]
 have hL:(splice (newI n).toList 0 [.int .i64 1]).length=n:=by rw [length_splice _ _ _ (by rw [hL0];exact h1),hL0]
 have hz2:w.heap.size < w2.heap.size:=(Array.getElem?_eq_some_iff.1 HG.out).1
 generalize splice (newI n).toList 0 [.int .i64 1]=L0 at HG HO hL
 clear hB hmk
 go_loopw [8] (fun s8 W=>∃ (k:Nat) (L:List Value),s8=.int .i64 k∧1≤k∧k≤n∧L.length=n∧Hid (W.heap[w.heap.size]?=some (.cells L.toArray 3 (0,0)))∧Hid (OnesTo L k)∧Hid (Below w.heap.size w W)∧w.heap.size < W.heap.size) (fun s8 _=>n - (intOf s8).toNat)
 case atStart=>exact ⟨1,L0,rfl,Nat.le_refl _,h1,hL,HG,HO,HB,hz2⟩
 case round =>
  clear HG HO HB hz2 hL
  obtain ⟨k,L,rfl,hk1,hk2,hL,HG,HO,HB,hz⟩:=hrel
  have HL:=Hid.intro hL
  clear hL
  by_cases hlt:k < n
  ·have hltz:(k:Int) < (n:Int):=by omega
   obtain ⟨c,hc⟩:∃ c,c=min k (n - k):=⟨_,rfl⟩
   have hc1:1≤c:=by rw [hc,Nat.min_def];split <;> omega
   have hc2:k+c≤n:=by rw [hc,Nat.min_def];split <;> omega
   have HC:=Hid.intro hc
   have HN:=Hid.intro (ones_next (c:=c) HO.out (by rw [HL.out];exact hc2))
   have HL2:Hid ((splice L k (List.replicate c (.int .i64 1))).length=n):=by show _=_;rw [length_splice _ _ _ (by rw [HL.out];simp;omega)];exact HL.out
   obtain ⟨cs,hcs⟩:∃ cs:List Value,cs=List.replicate c (.int .i64 1):=⟨_,rfl⟩
   rw [← hcs] at HN HL2
   have hcl:cs.length=c:=by rw [hcs];simp
   have HCS:=Hid.intro hcs
   have HCL:=Hid.intro hcl
   clear hc hcs hcl
   have hcp:=run_copy_row (P:=Tryz.prog) wr.drew 29 29 3 3 w.heap.size k (n - k) (n - k) ⟨w.heap.size,0,none⟩ k n L.toArray 3 cs Tryz.underlying29 uI HG.out (by rw [HCL.out,HC.out])
    (fun j v hv=>by
     have hj:j < cs.length:=(List.getElem?_eq_some_iff.1 hv).1
     rw [HCL.out] at hj
     rw [HCS.out,List.getElem?_replicate,if_pos hj] at hv
     rw [Go.WideShapes.add_plain,Nat.zero_add]
     have e:c≤k:=by rw [HC.out];exact Nat.min_le_left _ _
     show wr.cell? _=_
     rw [cellB HG.out,List.getElem?_toArray,HO.out j (by omega)]
     exact hv)
    (by rw [HCL.out];simp;rw [HL.out];exact hc2) (fun v hv=>by rw [HCS.out] at hv;rw [(List.mem_replicate.1 hv).2];rfl)
   rw [HCL.out] at hcp
   obtain ⟨w3,hw3⟩:∃ w3,w3=wr.drew.setRow w.heap.size (L.toArray.toList.take k ++ cs ++ L.toArray.toList.drop (k+c)).toArray:=⟨_,rfl⟩
   rw [← hw3] at hcp
   have HG3:Hid (w3.heap[w.heap.size]?=some (.cells (splice L k cs).toArray 3 (0,0))):=by
    rw [hw3]
    show _=_
    rw [setRow_heap wr.drew _ _ _ _ _ HG.out]
    simp [splice,HCL.out]
   have HB3:Hid (Below w.heap.size w w3):=by rw [hw3];exact below_setRow (k_drew HB.out) (Nat.le_refl _) _
   have hz3:w.heap.size < w3.heap.size:=(Array.getElem?_eq_some_iff.1 HG3.out).1
   clear hw3
   generalize splice L k cs=L3 at HG3 HN HL2
   have hk0:(0:Int)≤(k:Int):=by omega
   have enk:((n:Int) - (k:Int)).toNat=n - k:=by omega
   go_wp2_with fail
   go_region
   all_goals
    go_wp2
    go_roundw
    case rel=>exact ⟨k+c,L3,by go_num,by omega,hc2,HL2.out,HG3,HN,HB3,hz3⟩
    case measure=>simp [intOf];omega
  ·obtain rfl:k=n:=by omega
   go_wp2
   go_ret
   exact ⟨_,_,rfl,.inr ⟨w.heap.size,k,L.toArray,by simp,Nat.le_refl _,hz,HG.out,by simp,by unfold maxLen;omega,by simpa using HL.out,fun i hi=>by
    rw [List.length_replicate] at hi
    rw [List.getElem?_toArray,HO.out i hi]
    simp [List.getD,hi]⟩,HB.out⟩
end Go.Proofs.YtcbibdhlkdcmiafGreat
namespace Go.Proofs.YtcbibdhlkdcmiafGreat
open Go.RowKit

/-- numbers that may be weights -/
def wtB (n:Int):Bool:=decide (0≤n∧n≤100000)
def shrOkB (t:Int) (l:List Int):Bool:=wtB t && decide (l.length≤100) && l.all wtB
theorem wtB_in (n:Int):inB n 0 100000=wtB n:=rfl
theorem all_next {l:List Int} {k:Nat} (h:k < l.length) (h1:(l.take k).all wtB=true) (h2:wtB (l.getD k 0)=true):(l.take (k+1)).all wtB=true:=by
 rw [List.take_add_one,List.all_append,h1]
 simp [List.getD,h] at h2 ⊢
 exact h2
theorem not_all {l:List Int} {k:Nat} (h:k < l.length) (h2:wtB (l.getD k 0)=false):l.all wtB=false:=by
 rw [List.all_eq_false]
 refine ⟨l[k],List.getElem_mem h,?_⟩
 simp [List.getD,h] at h2
 simp [h2]
theorem wt_get {l:List Int} (h:l.all wtB=true) {i:Nat} (hi:i < l.length):0≤l.getD i 0∧l.getD i 0≤100000:=by
 have:=List.all_eq_true.1 h (l[i]) (List.getElem_mem hi)
 simp [wtB] at this
 simpa [List.getD,hi] using this
def sumTo (l:List Int) (k:Nat):Int:=(l.take k).sum
theorem sumTo_succ {l:List Int} {k:Nat} (h:k < l.length):sumTo l (k+1)=sumTo l k+l.getD k 0:=by
 rw [sumTo,List.take_add_one,List.sum_append,sumTo]
 simp [List.getD,h]
theorem sumTo_all (l:List Int):sumTo l l.length=l.sum:=by rw [sumTo,List.take_length]
theorem sumTo_bound {l:List Int} (h:l.all wtB=true):∀ k,k≤l.length→0≤sumTo l k∧sumTo l k≤k * 100000
 | 0,_=>by simp [sumTo]
 | k+1,hk=>by
  have h1:=sumTo_bound h k (by omega)
  have h2:=wt_get h (i:=k) (by omega)
  rw [sumTo_succ (by omega)]
  omega
theorem sum_bound {l:List Int} (h:l.all wtB=true):0≤l.sum∧l.sum≤l.length * 100000:=by
 have:=sumTo_bound h l.length (Nat.le_refl _)
 rwa [sumTo_all] at this
theorem shrOk_parts {t:Int} {l:List Int} (h:shrOkB t l=true):(0≤t∧t≤100000)∧l.length≤100∧l.all wtB=true:=by
 simp only [shrOkB,Bool.and_eq_true,decide_eq_true_eq] at h
 obtain ⟨⟨h1,h2⟩,h3⟩:=h
 simp only [wtB,decide_eq_true_eq] at h1
 exact ⟨h1,h2,h3⟩
end Go.Proofs.YtcbibdhlkdcmiafGreat
namespace Go.Proofs.YtcbibdhlkdcmiafGreat
open Go.RowKit

set_option maxRecDepth 100000 in
set_option maxHeartbeats 1000000 in
theorem implsumOf_any (v:Value) (l:List Int) (hl:l.length≤1000) (hw:l.all wtB=true) (w:World) (h:IntsAt w v l) :
  Calls Tryz.prog 71 #[v] w fun e w'=>e=.returned (.int .i64 l.sum)∧w'=w:=by
 obtain ⟨a,cap,rfl,_⟩:=h.form
 have H:=Hid.intro h
 have HW:=Hid.intro (sumTo_bound hw)
 have HG:=Hid.intro (fun i hi=>wt_get (i:=i) hw hi)
 clear h hw
 go_enter Tryz.func71,Tryz.ntmps71
 go_wp2_with fail
 go_loop [3,8] (fun s i=>∃ k:Nat,k≤l.length∧i=.int .i64 k∧s=.int .i64 (sumTo l k)) (fun _ i=>l.length - (intOf i).toNat)
 case atStart=>exact ⟨0,Nat.zero_le _,rfl,by simp [sumTo]⟩
 case round =>
  obtain ⟨k,hk,rfl,rfl⟩:=hrel
  by_cases hlt:k < l.length
  ·obtain ⟨b,off,cap',e',hc1,hc2,hbl,hx⟩:=H.out.get hlt
   simp only [Value.slice.injEq,true_and] at e'
   obtain ⟨rfl,rfl⟩:=e'
   have hb1:=HW.out k hk
   have hb2:=HG.out k hlt
   have HS:=Hid.intro (sumTo_succ hlt)
   generalize l.getD k 0=x at hx HS hb2
   generalize sumTo l k=s at HS hb1
   unfold maxLen at hc2
   go_wp2
   go_round
   case rel=>exact ⟨k+1,by omega,by go_num,by rw [HS.out]⟩
   case measure=>simp [intOf];omega
  ·obtain rfl:k=l.length:=by omega
   have HE:=Hid.intro (sumTo_all l)
   go_wp2
   go_ret
   exact ⟨by rw [← HE.out];rfl,rfl⟩

set_option maxRecDepth 100000 in
set_option maxHeartbeats 1000000 in
theorem implShrOk (t:Int) (v:Value) (l:List Int) (w:World) (h:IntsAt w v l) :
  Calls Tryz.prog 134 #[.int .i64 t,v] w fun e w'=>e=.returned (.bool (shrOkB t l))∧w'=w:=by
 obtain ⟨a,cap,rfl,hlen⟩:=h.form
 have H:=Hid.intro h
 clear h
 have HC:=Hid.intro (fun n=>within_any n 0 100000)
 by_cases ht:wtB t=true
 ·by_cases hl:(100:Int) < (l.length:Int)
  ·have HF:Hid (shrOkB t l=false):=by show _=_;simp [shrOkB];omega
   go_enter Tryz.func134,Tryz.ntmps134
   go_wp2_with fail
   refine (HC.out _ _).mono ?_
   rintro e w1 ⟨rfl,rfl⟩
   rw [wtB_in,ht]
   go_wp2
   go_ret
   exact ⟨retB HF.out.symm,rfl⟩
  ·go_enter Tryz.func134,Tryz.ntmps134
   go_wp2_with fail
   refine (HC.out _ _).mono ?_
   rintro e w1 ⟨rfl,rfl⟩
   rw [wtB_in,ht]
   go_wp2_with fail
   go_loop [17] (fun i=>∃ k:Nat,k≤l.length∧i=.int .i64 k∧Hid ((l.take k).all wtB=true)) (fun i=>l.length - (intOf i).toNat)
   case atStart=>exact ⟨0,Nat.zero_le _,rfl,by simp [Hid]⟩
   case round =>
    obtain ⟨k,hk,rfl,HA⟩:=hrel
    by_cases hlt:k < l.length
    ·obtain ⟨b,off,cap',e',hc1,hc2,hbl,hx⟩:=H.out.get hlt
     simp only [Value.slice.injEq,true_and] at e'
     obtain ⟨rfl,rfl⟩:=e'
     unfold maxLen at hc2
     by_cases hy:wtB (l.getD k 0)=true
     ·have HN:=Hid.intro (all_next hlt HA.out hy)
      generalize l.getD k 0=x at hx hy
      go_wp2_with fail
      refine (HC.out _ _).mono ?_
      rintro e w1 ⟨rfl,rfl⟩
      rw [wtB_in,hy]
      go_wp2
      go_round
      case rel=>exact ⟨k+1,by omega,by go_num,HN⟩
      case measure=>simp [intOf];omega
     ·have hy':=eq_false_of_ne_true hy
      have HF:Hid (shrOkB t l=false):=by show _=_;simp only [shrOkB,not_all hlt hy',Bool.and_false]
      generalize l.getD k 0=x at hx hy'
      go_wp2_with fail
      refine (HC.out _ _).mono ?_
      rintro e w1 ⟨rfl,rfl⟩
      rw [wtB_in,hy']
      go_wp2
      go_ret
      exact ⟨retB HF.out.symm,rfl⟩
    ·obtain rfl:k=l.length:=by omega
     have HF:Hid (shrOkB t l=true):=by have h1:=HA.out;rw [List.take_length] at h1;show _=_;simp only [shrOkB,ht,h1,Bool.and_true,Bool.true_and,decide_eq_true_eq];omega
     go_wp2
     go_ret
     exact ⟨retB HF.out.symm,rfl⟩
 ·have ht':=eq_false_of_ne_true ht
  have HF:Hid (shrOkB t l=false):=by show _=_;simp only [shrOkB,ht',Bool.false_and]
  go_enter Tryz.func134,Tryz.ntmps134
  go_wp2_with fail
  refine (HC.out _ _).mono ?_
  rintro e w1 ⟨rfl,rfl⟩
  rw [wtB_in,ht']
  go_wp2
  go_ret
  exact ⟨retB HF.out.symm,rfl⟩
end Go.Proofs.YtcbibdhlkdcmiafGreat
namespace Go.Proofs.YtcbibdhlkdcmiafGreat
open Go.RowKit

def dueV (t:Int) (l:List Int) (k:Int):Int:=if shrOkB t l && inB k 0 (l.length - 1) && l.sum != 0 then t * l.getD k.toNat 0 / l.sum else 0
theorem due_yes {t:Int} {l:List Int} {k:Int} (h1:shrOkB t l=true) (h2:inB k 0 (l.length - 1)=true) (h3:l.sum ≠ 0):dueV t l k=t * l.getD k.toNat 0 / l.sum:=by
 rw [dueV,if_pos]
 simp [h1,h2,h3]
theorem mul_small {t x:Int} (h1:0≤t∧t≤100000) (h2:0≤x∧x≤100000):0≤t * x∧t * x≤10000000000 :=
 ⟨Int.mul_nonneg h1.1 h2.1,Int.le_trans (Int.mul_le_mul h1.2 h2.2 h2.1 (by omega)) (by omega)⟩
end Go.Proofs.YtcbibdhlkdcmiafGreat
namespace Go.Proofs.YtcbibdhlkdcmiafGreat
open Go.RowKit Go.Shelf Go.Lib Go.Sort

/-- a claim: its place, what is whole of it, what is left over -/
structure Cl where
 p:Int
 w:Int
 o:Int
deriving Inhabited
def encC (x:Cl):List Value:=[.int .i64 x.p,.int .i64 x.w,.int .i64 x.o]
/-- the one of whom most is left over comes first -/
def cfC (x y:Cl):Int:=if y.o < x.o then -1 else if x.o < y.o then 1 else 0
theorem encC_len (x:Cl):(encC x).length=3:=rfl
theorem encC_one (x:Cl):∀ v ∈ encC x,v.oneCell'=true:=fun v hv=>by simp [encC] at hv;rcases hv with rfl | rfl | rfl <;> rfl
end Go.Proofs.YtcbibdhlkdcmiafGreat
