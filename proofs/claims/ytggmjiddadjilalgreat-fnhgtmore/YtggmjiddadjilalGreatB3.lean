/-
  PROVED HERE: an operation that is no defer statement is carried out in a round of a loop as outside of one; so a region of such that only reads may be walked once, in its text's order, in a round too; the three ways to take up the operations of a region that draws its order.
-/
import Derived.Test.YtggmjiddadjilalGreatB1
import Derived.OwnWalkIn
import Derived.Sort.QuietIn
set_option maxRecDepth 1000000
set_option maxHeartbeats 40000000
namespace Go.Proofs.YtggmjiddadjilalGreat
open Value (int)
open IntKind (i64)
open Go.RowKit
theorem zbt {n l:Nat} {P:Program} {o:Oper} {a:Act} {w:World} {K:Act->World->Prop} {Q:Exit->Act->World->Prop} (hd:∀ c,o.op ≠ .defer c) (h:o.wpIn Fence.wide n P a w K Q):o.wpIn (Fence.wide.inRound l) n P a w K Q:=by
 unfold Oper.wpIn at *;refine ⟨h.1,?_⟩;have h2:=h.2;rw [Oper.semAt_plain _ _ _ hd] at h2 |-;generalize (execOp a.eval o).run P w=r at h2 |-;exact h2
def z80 (ops:List Oper):Bool:=ops.all (fun o=>match o.op with | .defer _=>false | _=>true)
theorem zau {ops:List Oper} (h:z80 ops=true) {i:Nat} {o:Oper} (ho:ops.toArray[i]?=some o):∀ c,o.op ≠ .defer c:=by
 intro c hc
 have hm:o ∈ ops:=by
  rw [List.getElem?_toArray] at ho;exact List.mem_of_getElem? ho
 have:=List.all_eq_true.1 h o hm;rw [hc] at this
 cases this
theorem z3O {n l:Nat} {P:Program} {md:Region.Mode} {ops:List Oper} {Q:Exit->Act->World->Prop} (hd:z80 ops=true):∀ (fuel:Nat) (listed:Array Bool) (a:Act) (w:World),
  wpAnyIn Fence.wide n P md ops.toArray Q fuel listed a w->wpAnyIn (Fence.wide.inRound l) n P md ops.toArray Q fuel listed a w
 | 0,_,_,_,h=>h
 | fuel+1,_,_,_,h=>⟨h.1,fun i hi=>by
   have h2:=h.2 i hi;unfold wpOpIn at h2 |-
   cases ho:ops.toArray[i]? with
   | none=>rw [ho] at h2;exact z3O hd fuel _ _ _ h2
   | some o =>
    rw [ho] at h2;dsimp only at h2 |-
    split
    ·rename_i hw
     rw [if_pos hw] at h2;exact zbt (zau hd ho) (Oper.wpIn_mono (fun a w hh=>z3O hd fuel _ a w hh) h2)
    ·rename_i hw
     rw [if_neg hw] at h2;exact ⟨h2.1,z3O hd fuel _ _ _ h2.2⟩⟩
theorem z5u {n l id:Nat} {P:Program} {Q:Exit->Act->World->Prop} {a:Act} {w:World} {ops:List Oper} (hd:z80 ops=true) (hm:P.follows .mixedOrders=true) (hB:Region.lexB .any ops.toArray=true)
  (h:wpQuietIn Fence.wide n P ops.toArray (fun w'=>∃ n,w'=w.drewN n) (fun a'=>∀ w',(∃ n,w'=w.drewN n)->Q .normal a' w') ops a):(Code.region id ops.toArray true).wpIn (Fence.wide.inRound l) n P Q a w:=by
 have hB':=hB;simp only [Region.lexB,Bool.and_eq_true] at hB';refine wpIn_region_any hm (z3O hd _ _ _ _ (wpAnyIn_of_quiet (Q:=fun a'=>∀ w',(∃ n,w'=w.drewN n)->Q .normal a' w') (C:=fun w'=>∃ n,w'=w.drewN n) rfl (fun _ w' hw' h=>h w' hw') _ _ _ _ ⟨1,rfl⟩ ?_));have:=wpAnyQIn_lex (F:=Fence.wide) (n:=n) (C:=fun w'=>∃ n,w'=w.drewN n) (md:=.any) hB'.1 ops 0 (Array.replicate ops.toArray.size false) a (by simp) (by simpa using hB'.2) h
 simpa using this
theorem zS {F:Fence} {n:Nat} {P:Program} {md:Region.Mode} {ops:Array Oper} {Q:Exit->Act->World->Prop} {fuel:Nat} {listed:Array Bool} {a:Act} {w:World} {i:Nat} {o:Oper} (hr:Region.ready md ops listed=[i]) (ho:ops[i]?=some o)
  (h:∀ K':Act->World->Prop,(∀ a w,wpAnyIn F n P md ops Q fuel (listed.setIfInBounds i true) a w->K' a w)->if Region.wanted o (yielded ops a.tmps)=true then Oper.wpIn F n P o a w K' Q else (∀ f,o.about P w a.eval=some f->F.fn f)/\K' (a.put o.dst undef) w) :
  wpAnyIn F n P md ops Q (fuel+1) listed a w:=wpAnyIn_ready hr (by simp) (AllReadyIn.cons ho h (fun _ hj=>by cases hj))
theorem z7j {F:Fence} {n:Nat} {P:Program} {md:Region.Mode} {ops:Array Oper} {Q:Exit->Act->World->Prop} {fuel:Nat} {listed:Array Bool} {a:Act} {w:World} {i j:Nat} {o o':Oper} (hr:Region.ready md ops listed=[i,j]) (ho:ops[i]?=some o) (ho':ops[j]?=some o')
  (h:∀ K':Act->World->Prop,(∀ a w,wpAnyIn F n P md ops Q fuel (listed.setIfInBounds i true) a w->K' a w)->if Region.wanted o (yielded ops a.tmps)=true then Oper.wpIn F n P o a w K' Q else (∀ f,o.about P w a.eval=some f->F.fn f)/\K' (a.put o.dst undef) w)
  (h':∀ K':Act->World->Prop,(∀ a w,wpAnyIn F n P md ops Q fuel (listed.setIfInBounds j true) a w->K' a w)->if Region.wanted o' (yielded ops a.tmps)=true then Oper.wpIn F n P o' a w K' Q else (∀ f,o'.about P w a.eval=some f->F.fn f)/\K' (a.put o'.dst undef) w) :
  wpAnyIn F n P md ops Q (fuel+1) listed a w:=wpAnyIn_ready hr (by simp) (AllReadyIn.cons ho h (AllReadyIn.cons ho' h' (fun _ hj=>by cases hj)))
theorem z2d {F:Fence} {n:Nat} {P:Program} {md:Region.Mode} {ops:Array Oper} {Q:Exit->Act->World->Prop} {fuel:Nat} {listed:Array Bool} {a:Act} {w:World} {j:Nat} {o:Oper} (hr:Region.ready md ops listed=[j]) (ho:ops[j]?=some o) (hg:o.guard=none)
  (s x:Operand) (t:TypeId) (hop:o.op=Op.call { callee:=Callee.builtin Builtin.append,args:=#[s,x],argTypes:=#[t,t] })
  (base:Nat) (e:TypeId) (i:TypeInfo) (z:Value) (size bytes:Nat) (h1:P.underlying t=some (.slice e)) (h2:P.info? e=some i) (h3:i.zero=some z) (h4:i.size=size) (h5:i.bytes=bytes) (h6:z.cells.size=size) (h7:0 < size)
  (v:Value) (k:Nat) (xs:List Value) (hs:a.eval s=v) (hown:w.ownsRow base e size v k xs) (ad:Addr) (m c:Nat) (news:List Value) (hx:a.eval x=.slice (some ad) m c) (hn:news.length=m * size)
  (hc:∀ j u,news[j]?=some u->w.cell? (ad.add j)=some u) (h1c:∀ u ∈ news,u.oneCell'=true) (b1:k+m<=maxLen) (b2:(k+m) * bytes<=140737488355328) (b3:base<=w.heap.size)
  (hK:∀ v' w',w'.ownsRow base e size v' (k+m) (xs ++ news)->w.grownBy w' v.ownBlock->wpAnyIn F n P md ops Q fuel (listed.setIfInBounds j true) (a.put o.dst v') w') :
  wpAnyIn F n P md ops Q (fuel+1) listed a w:=by
 refine zS hr ho (fun K hK'=>?_);obtain ⟨v',w',hrun,r1,r2,_⟩:=run_append_own (P:=P) w base t o.type e i z size bytes h1 h2 h3 h4 h5 h6 h7 v k xs hown ad m c news hn hc h1c b1 b2 b3;rw [if_pos (by simp [Region.wanted,hg])];unfold Oper.wpIn;refine ⟨?_,?_⟩
 ·simp [Oper.about,hop,resolve,Target.leads,Sem.run_pure]
 ·rw [Oper.semAt_plain F _ _ (by rw [hop];intro c hc';cases hc')];simp [execOp,hop,resolve,invoke,builtin,hs,hx,hrun,Result.andThen];exact hK' _ _ (hK v' w' r1 r2)
end Go.Proofs.YtggmjiddadjilalGreat
