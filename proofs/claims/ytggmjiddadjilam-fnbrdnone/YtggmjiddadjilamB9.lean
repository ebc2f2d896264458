/-
  PROVED HERE: the first statement of the drawing of a cell: whatever order is drawn, a text and two numbers come to lie in the cell's block; nothing that was in memory is turned but the reader.
-/
import Derived.Test.YtggmjiddadjilamB8
set_option maxRecDepth 1000000
set_option maxHeartbeats 40000000
namespace Go.Proofs.Ytggmjiddadjilam
open Go.RowKit
def z7i:Array Value:=#[.int .i64 1,.int .i64 1,.int .i64 1,.int .i64 2,.int .i64 3,.int .i64 4]
def z7j:Array Value:=#[.int .i64 1,.int .i64 1,.int .i64 1,.int .i64 1,.int .i64 2,.int .i64 3]
def z0b:Array Value:=#[.string ⟨#[]⟩,.int .i64 0,.int .i64 0,.int .i64 0,.int .i64 0,.int .i64 0,.int .i64 0,.int .i64 0,.int .i64 0,.int .i64 0,.int .i64 0]
def PCs (s:ByteArray) (c q:Int):Prop:=s.size≤30∧(1≤c∧c≤4)∧1≤q∧q≤3
def PC (u:Value):Prop:=∃ s c q,u=.agg #[.string s,.int .i64 c,.int .i64 q,.int .i64 0,.int .i64 0,.int .i64 0,.int .i64 0,.int .i64 0,.int .i64 0,.int .i64 0,.int .i64 0]∧PCs s c q
def z71 (s:ByteArray) (c q:Int):Obj:=.cells #[.string s,.int .i64 c,.int .i64 q,.int .i64 0,.int .i64 0,.int .i64 0,.int .i64 0,.int .i64 0,.int .i64 0,.int .i64 0,.int .i64 0] 35
theorem at6 {x0 x1 x2 x3 x4 x5:Int} {lo hi:Int} (h:(lo≤x0∧x0≤hi)∧(lo≤x1∧x1≤hi)∧(lo≤x2∧x2≤hi)∧(lo≤x3∧x3≤hi)∧(lo≤x4∧x4≤hi)∧lo≤x5∧x5≤hi) (k:Int) (h0:0≤k) (h1:k≤5) :
  ∃ v:Int,(#[.int .i64 x0,.int .i64 x1,.int .i64 x2,.int .i64 x3,.int .i64 x4,.int .i64 x5]:Array Value)[k.toNat]?=some (.int .i64 v)∧lo≤v∧v≤hi:=by
 rcases (by omega:k=0∨k=1∨k=2∨k=3∨k=4∨k=5) with rfl | rfl | rfl | rfl | rfl | rfl
 ·exact ⟨x0,rfl,h.1⟩
 ·exact ⟨x1,rfl,h.2.1⟩
 ·exact ⟨x2,rfl,h.2.2.1⟩
 ·exact ⟨x3,rfl,h.2.2.2.1⟩
 ·exact ⟨x4,rfl,h.2.2.2.2.1⟩
 ·exact ⟨x5,rfl,h.2.2.2.2.2⟩
theorem at3 (k:Int) (h0:0≤k) (h1:k < 3):∃ v:Int,(#[Value.int .i64 0,.int .i64 5,.int .i64 (-1)]:Array Value)[k.toNat]?=some (.int .i64 v)∧(v≤3∨v=5):=by
 rcases (by omega:k=0∨k=1∨k=2) with rfl | rfl | rfl
 ·exact ⟨0,rfl,by omega⟩
 ·exact ⟨5,rfl,by omega⟩
 ·exact ⟨-1,rfl,by omega⟩
def cnt (L:Nat→Bool):Nat:=(if L 1=true then 6 else 0)+(if L 4=true then 1 else 0)+(if L 9=true then 1 else 0)
theorem z3f (L:Nat→Bool):cnt L≤8:=by unfold cnt;split <;> split <;> split <;> omega
theorem z0H {L:Nat→Bool} {i:Nat} (h:i ≠ 1∧i ≠ 4∧i ≠ 9):cnt (upd L i)=cnt L:=by
 have h1:1 ≠ i:=fun e=>h.1 e.symm;have h4:4 ≠ i:=fun e=>h.2.1 e.symm;have h9:9 ≠ i:=fun e=>h.2.2 e.symm;simp [cnt,upd,h1,h4,h9]
theorem z72 {L:Nat→Bool} (h:L 1=false):cnt (upd L 1)=cnt L+6:=by simp [cnt,upd,h];omega
theorem z73 {L:Nat→Bool} (h:L 4=false):cnt (upd L 4)=cnt L+1:=by simp [cnt,upd,h];omega
theorem z74 {L:Nat→Bool} (h:L 9=false):cnt (upd L 9)=cnt L+1:=by simp [cnt,upd,h]
structure z75 (r B n0:Nat) (w0:World) (L:Nat→Bool) (w:World) (v5 v6 v7 v8 v9 v10 v11 v12 v13 v14 v15 v16 v17 v18:Value):Prop where
 f0:L 0=true→v6=.pointer (some ⟨r,0,none⟩)
 f1:L 1=true→PS 30 v7
 f2:L 2=true→PL n0 w 6 z7i v8
 f3:L 3=true→v9=.pointer (some ⟨r,0,none⟩)
 f4:L 4=true→PI 0 5 v10
 f5:L 5=true→PA n0 w 1 4 v11
 f6:L 6=true→PI 1 4 v12
 f7:L 7=true→PL n0 w 6 z7j v13
 f8:L 8=true→v14=.pointer (some ⟨r,0,none⟩)
 f9:L 9=true→PI 0 5 v15
 f10:L 10=true→PA n0 w 1 3 v16
 f11:L 11=true→PI 1 3 v17
 f12:L 12=true→PC v18
 f13:L 13=true→∃ g,v5=.pointer (some ⟨g,0,none⟩)∧n0 < g∧(L 14=false→Hp n0 w g (.cells z0b 35))
 f14:L 14=true→∃ g s c q,v5=.pointer (some ⟨g,0,none⟩)∧n0 < g∧Hp n0 w g (z71 s c q)∧PCs s c q
 o14:L 14=true→L 13=true
 rd:Rd w r (B+cnt L)
 bk:Bk r w0 w
 hp:Hp n0 w n0 (.cells z0b 35)
def z76 (r B n0:Nat) (n:Int) (w0:World) (L:Nat→Bool) (a:Act) (w:World):Prop:=∃ v5 v6 v7 v8 v9 v10 v11 v12 v13 v14 v15 v16 v17 v18:Value,a=⟨#[.pointer (some ⟨r,0,none⟩),.int .i64 n,undef,undef,.pointer (some ⟨n0,0,none⟩),v5,v6,v7,v8,v9,v10,v11,v12,v13,v14,v15,v16,v17,v18,undef,undef,undef,undef,undef,undef,undef,undef,undef,undef,undef,undef,undef,undef,undef,undef,undef,undef,undef,undef,undef,undef,undef,undef,undef,undef,undef,undef,undef,undef,undef,undef,undef,undef,undef,undef,undef,undef,undef,undef,undef,undef,undef,undef,undef,undef,undef,undef,undef,undef,undef],[]⟩∧z75 r B n0 w0 L w v5 v6 v7 v8 v9 v10 v11 v12 v13 v14 v15 v16 v17 v18
end Go.Proofs.Ytggmjiddadjilam
