/-
  PROVED HERE: a region that draws its order, whose own operations only read and whose callees turn nothing that was in memory, may be walked once, in its text's order. Also: 11 more texts of the same proof.
-/
import Derived.Test.YtggmjiddadjilaeGreatC1
import Derived.Test.YtggmjiddadjilaeGreatC12
import Derived.Test.YtggmjiddadjilaeGreatC2
import Derived.Deep.QuietTactic
import Derived.BigQuiet
import Derived.Laws.AppendOwn
import Derived.WalkKit
import Derived.ProofKit
import Derived.WalkLawsBesides
import Derived.WalkSpells
import Derived.Below
import Derived.Lib.SmallJoins
import Derived.RegionTactic
import Derived.Orders
namespace Go.Proofs.YtggmjiddadjilaeGreat
open Go.RowKit
structure BW (w:World) where
 u:World
 h:Below w.heap.size w u
theorem bw_some (w:World):Nonempty (BW w):=⟨⟨w,Below.refl _ _⟩⟩
theorem wp_region_quiet_below {P:Program} {id:Nat} {Q:Exit→Act→World→Prop} {a:Act} {w:World} {l:List Oper} (hm:P.follows .mixedOrders=true) (hB:Region.lexB .any l.toArray=true)
  (h:wpQuiet P l.toArray (fun w'=>∃ p:BW w,w'=p.u) (fun a'=>∀ w',(∃ p:BW w,w'=p.u)→Q .normal a' w') l a):(Code.region id l.toArray true).wp P Q a w :=
 wp_region_quiet (C:=fun w'=>∃ p:BW w,w'=p.u) hm hB ⟨⟨_,k_drew (Below.refl _ _)⟩,rfl⟩ (by simpa using h)
theorem bw_of {P:Program} {f:FuncId} {args:Array Value} {w:World} {p:BW w} {v:Value} (h:Calls P f args p.u fun e w'=>e=.returned v∧Below p.u.heap.size p.u w') :
  Calls P f args p.u fun e w''=>e=.returned v∧∃ p:BW w,w''=p.u :=
 h.mono fun _ _ ⟨he,hb⟩=>⟨he,⟨_,k_trans p.h hb⟩,rfl⟩
theorem bw_same {P:Program} {f:FuncId} {args:Array Value} {w:World} {p:BW w} {v:Value} (h:Calls P f args p.u fun e w'=>e=.returned v∧w'=p.u) :
  Calls P f args p.u fun e w''=>e=.returned v∧∃ p:BW w,w''=p.u :=
 h.mono fun _ _ ⟨he,hb⟩=>⟨he,p,hb⟩
theorem bw_cell {w:World} {a:Addr} {v:Value} (hb:a.block < w.heap.size) (h:w.cell? a=some v) (p:BW w):p.u.cell? a=some v:=(p.h.cell hb).trans h
end Go.Proofs.YtggmjiddadjilaeGreat
namespace Go.Proofs.YtggmjiddadjilaeGreat
open Go.RowKit Go.BigFrame
def Sm (x:GC):Prop:=(0≤x.row∧x.row≤100000)∧(0≤x.col∧x.col≤100000)∧(0≤x.rows∧x.rows≤100000)∧(0≤x.cols∧x.cols≤100000)
theorem GsAt.take {w:World} {z:Nat} {ac:Option Addr} {cc:Nat} {gs:List GC} (h:GsAt w z (.slice ac gs.length cc) gs) {k:Nat} (hk:k≤gs.length):GsAt w z (.slice ac (gs.take k).length cc) (gs.take k):=by
 obtain ⟨a,cap,e,h1,h2,hx⟩:=h
 simp only [Value.slice.injEq,true_and] at e
 obtain ⟨rfl,rfl⟩:=e
 have hl:(gs.take k).length=k:=by rw [List.length_take];omega
 refine ⟨_,_,rfl,by omega,h2,fun i hi=>?_⟩
 obtain ⟨b,off,ea,hb,hz,he⟩:=hx i (by omega)
 have e:(gs.take k).getD i dG=gs.getD i dG:=by simp [List.getD,show i < k by omega]
 exact ⟨b,off,ea,hb,hz,by dsimp only;rw [e];exact he⟩
def gcA (x:GC):Value:=.agg #[.int .i64 x.row,.int .i64 x.col,.int .i64 x.rows,.int .i64 x.cols,.int .i64 x.ins]
set_option maxRecDepth 100000 in
set_option maxHeartbeats 1000000 in
theorem l3Meets_any (a b:GC) (ha:Sm a) (hb:Sm b) (w:World) :
  Calls Tryz.prog 102 #[.agg #[.int .i64 a.row,.int .i64 a.col,.int .i64 a.rows,.int .i64 a.cols,.int .i64 a.ins],.agg #[.int .i64 b.row,.int .i64 b.col,.int .i64 b.rows,.int .i64 b.cols,.int .i64 b.ins]] w fun e w'=>e=.returned (.bool (meetsB a b))∧Below w.heap.size w w':=by
 obtain ⟨a0,a1,a2,a3⟩:=ha
 obtain ⟨b0,b1,b2,b3⟩:=hb
 by_cases h1:a.row < b.row+b.rows
 ·by_cases h2:b.row < a.row+a.rows
  ·by_cases h3:a.col < b.col+b.cols
   ·have HE:Hid (meetsB a b=decide (b.col < a.col+a.cols)):=by
     show meetsB a b=_
     simp only [meetsB,h1,h2,h3,decide_true,Bool.true_and]
    go_enter Tryz.func102,Tryz.ntmps102
    go_wp2
    go_ret
    exact ⟨retB HE.out.symm,k_alloc (k_alloc (Below.refl _ _) _) _⟩
   ·have HE:Hid (meetsB a b=false):=by
     show meetsB a b=_
     simp only [meetsB,h3,decide_false,Bool.false_and,Bool.and_false]
    go_enter Tryz.func102,Tryz.ntmps102
    go_wp2
    go_ret
    exact ⟨retB HE.out.symm,k_alloc (k_alloc (Below.refl _ _) _) _⟩
  ·have HE:Hid (meetsB a b=false):=by
    show meetsB a b=_
    simp only [meetsB,h2,decide_false,Bool.false_and,Bool.and_false]
   go_enter Tryz.func102,Tryz.ntmps102
   go_wp2
   go_ret
   exact ⟨retB HE.out.symm,k_alloc (k_alloc (Below.refl _ _) _) _⟩
 ·have HE:Hid (meetsB a b=false):=by
   show meetsB a b=_
   simp only [meetsB,h1,decide_false,Bool.false_and]
  go_enter Tryz.func102,Tryz.ntmps102
  go_wp2
  go_ret
  exact ⟨retB HE.out.symm,k_alloc (k_alloc (Below.refl _ _) _) _⟩
theorem freeG_hit {gs:List GC} {x:GC} {k:Nat} (hk:k < gs.length) (h:meetsB (gs.getD k dG) x=true):freeG gs x=false:=by
 cases h2:freeG gs x with
 | false=>rfl
 | true =>
  have e:gs.getD k dG=gs[k]:=by simp [List.getD,hk]
  have:=List.all_eq_true.1 h2 gs[k] (List.getElem_mem hk)
  rw [← e,h] at this
  cases this
theorem freeG_all {gs:List GC} {x:GC} (h:∀ j,j < gs.length→meetsB (gs.getD j dG) x=false):freeG gs x=true:=by
 refine List.all_eq_true.2 (fun a ha=>?_)
 obtain ⟨i,hi,rfl⟩:=List.mem_iff_getElem.1 ha
 have:=h i hi
 have e:gs.getD i dG=gs[i]:=by simp [List.getD,hi]
 rw [e] at this
 rw [this];rfl
set_option maxRecDepth 100000 in
set_option maxHeartbeats 1000000 in
theorem l3Free_any (ac:Option Addr) (cc:Nat) (gs:List GC) (hgs:∀ a ∈ gs,Sm a) (x:GC) (hxs:Sm x) (w:World) {z:Nat} (h:GsAt w z (.slice ac gs.length cc) gs) :
  Calls Tryz.prog 66 #[.slice ac gs.length cc,.agg #[.int .i64 x.row,.int .i64 x.col,.int .i64 x.rows,.int .i64 x.cols,.int .i64 x.ins]] w fun e w'=>e=.returned (.bool (freeG gs x))∧Below w.heap.size w w':=by
 obtain ⟨_,_,_,hlen⟩:=At.form h
 unfold maxLen at hlen
 have K0:=Hd (k_alloc (Below.refl w.heap.size w) (.cells #[.int .i64 x.row,.int .i64 x.col,.int .i64 x.rows,.int .i64 x.cols,.int .i64 x.ins] 49))
 have H:=Hd h
 have HG:=Hd hgs
 have HXS:=Hd hxs
 have hmx:Tryz.prog.follows .mixedOrders=true:=by kernel_rfl
 clear h hgs hxs
 go_enter Tryz.func66,Tryz.ntmps66
 go_wp2_with fail
 go_loopw [5] (fun i W=>∃ k:Nat,k≤gs.length∧i=.int .i64 k∧Hid (∀ j,j < k→meetsB (gs.getD j dG) x=false)∧Hid (Below w.heap.size w W)∧Hid (W.heap[w.heap.size]?=some (.cells #[.int .i64 x.row,.int .i64 x.col,.int .i64 x.rows,.int .i64 x.cols,.int .i64 x.ins] 49))) (fun i _=>gs.length - (intOf i).toNat)
 case atStart=>exact ⟨0,Nat.zero_le _,rfl,fun j hj=>absurd hj (Nat.not_lt_zero _),K0.out,newestB _ _⟩
 case round =>
  obtain ⟨k,hk,rfl,HA,HB,HX⟩:=hrel
  have hz:w.heap.size < wr.heap.size:=(bL HX.out)
  by_cases hlt:k < gs.length
  ·have hlt':(k:Int) < (gs.length:Int):=by omega
   have h0':(0:Int)≤(k:Int):=by omega
   obtain ⟨q,off,cap',e',hc1,hc2,hbl,hx,hs⟩:=At.get (H.out.kept HB.out) hlt
   simp only [Value.slice.injEq,true_and] at e'
   obtain ⟨rfl,rfl⟩:=e'
   have HH:Hid (meetsB (gs.getD k dG) x=true→freeG gs x=false):=fun hp=>freeG_hit hlt hp
   have HN:Hid (meetsB (gs.getD k dG) x=false→∀ j,j < k+1→meetsB (gs.getD j dG) x=false):=fun hp j hj=>by
    rcases Nat.lt_or_eq_of_le (Nat.lt_succ_iff.1 hj) with h1 | rfl
    ·exact HA.out j h1
    ·exact hp
   have HS:Sm (gs.getD k dG):=by
    have e:gs.getD k dG=gs[k]:=by simp [List.getD,hlt]
    rw [e]
    exact HG.out _ (List.getElem_mem hlt)
   have HL:=Hd (l3Meets_any (gs.getD k dG) x HS HXS.out)
   clear HS hs
   generalize gs.getD k dG=y at hx HH HN HL
   obtain ⟨x0,x1,x2,x3,x4⟩:=hx
   have y0:=bw_cell (a:=⟨q,off+k * 5,none⟩) hbl x0
   have y1:=bw_cell (a:=⟨q,off+k * 5+1,none⟩) hbl x1
   have y2:=bw_cell (a:=⟨q,off+k * 5+2,none⟩) hbl x2
   have y3:=bw_cell (a:=⟨q,off+k * 5+3,none⟩) hbl x3
   have y4:=bw_cell (a:=⟨q,off+k * 5+4,none⟩) hbl x4
   have b0:=bw_cell (a:=⟨w.heap.size,0,none⟩) (v:=.int .i64 x.row) hz (cellB HX.out)
   have b1:=bw_cell (a:=⟨w.heap.size,1,none⟩) (v:=.int .i64 x.col) hz (cellB HX.out)
   have b2:=bw_cell (a:=⟨w.heap.size,2,none⟩) (v:=.int .i64 x.rows) hz (cellB HX.out)
   have b3:=bw_cell (a:=⟨w.heap.size,3,none⟩) (v:=.int .i64 x.cols) hz (cellB HX.out)
   have b4:=bw_cell (a:=⟨w.heap.size,4,none⟩) (v:=.int .i64 x.ins) hz (cellB HX.out)
   unfold maxLen at hc2
   clear x0 x1 x2 x3 x4
   go_wp2_with fail
   have hne:=bw_some wr
   refine wp_region_quiet_below hmx (by kernel_rfl) ?_
   repeat (go_big_quiet_step (refine bw_of (HL.out _)))
   refine wpQuiet_nil ?_
   intro _ hw'
   obtain ⟨⟨W7,hW7⟩,hw''⟩:=hw'
   subst hw''
   have HB7:=Hd (k_trans HB.out hW7)
   have HX7:=Hd ((hW7.block w.heap.size hz).trans HX.out)
   clear y0 y1 y2 y3 y4 b0 b1 b2 b3 b4 hW7
   cases h1:meetsB y x with
   | false =>
    have HF:=Hd (HN.out h1)
    clear HH HN HA h1
    go_wp2
    go_roundw
    case rel=>exact ⟨k+1,by omega,by go_num,HF,HB7,HX7⟩
    case measure=>simp [intOf];omega
   | true =>
    have HF:=Hd (HH.out h1)
    clear HH HN HA h1
    go_wp2
    go_ret
    exact ⟨retB HF.out.symm,HB7.out⟩
  ·obtain rfl:k=gs.length:=by omega
   have HF:=Hd (freeG_all HA.out)
   clear HA
   go_wp2
   go_ret
   exact ⟨retB HF.out.symm,HB.out⟩
end Go.Proofs.YtggmjiddadjilaeGreat
namespace Go.Proofs.YtggmjiddadjilaeGreat
open Go.RowKit
theorem row_form {w:World} {base:Nat} {e:TypeId} {sz:Nat} {v:Value} {m:Nat} {xs:List Value} (h:w.ownsRow base e sz v m xs):∃ a cap,v=.slice a m cap∧m≤maxLen:=by
 rcases h.2 with ⟨rfl,rfl⟩ | ⟨g,cap,cur,rfl,_,_,h1,h2,_⟩
 ·exact ⟨none,0,rfl,by unfold maxLen;omega⟩
 ·exact ⟨_,cap,rfl,Nat.le_trans h1 h2⟩
theorem flat_get {α:Type} (f:α→List Value) (sz:Nat) (hf:∀ x,(f x).length=sz) (l:List α) (i:Nat) (hi:i < l.length) (j:Nat) (hj:j < sz):(l.flatMap f)[i * sz+j]?=(f l[i])[j]?:=by
 induction l generalizing i with
 | nil=>simp at hi
 | cons a t ih =>
  rw [List.flatMap_cons]
  cases i with
  | zero=>rw [List.getElem?_append_left (by rw [hf];omega)];simp
  | succ i =>
   rw [List.getElem?_append_right (by rw [hf,Nat.succ_mul];omega),hf]
   have e:(i+1) * sz+j - sz=i * sz+j:=by rw [Nat.succ_mul];omega
   rw [e,ih i (by simpa using hi)]
   simp
theorem flat_len {α:Type} (f:α→List Value) (sz:Nat) (hf:∀ x,(f x).length=sz) (l:List α):(l.flatMap f).length=l.length * sz:=by
 induction l with
 | nil=>simp
 | cons a t ih=>rw [List.flatMap_cons,List.length_append,hf,ih,List.length_cons,Nat.succ_mul];omega
theorem row_cell {w:World} {base:Nat} {e:TypeId} {sz:Nat} {m:Nat} {xs:List Value} {g cap:Nat} (h:w.ownsRow base e sz (.slice (some ⟨g,0,none⟩) m cap) m xs) {k:Nat} {u:Value} (hk:xs[k]?=some u):w.cell? ⟨g,k,none⟩=some u:=by
 have hl:k < xs.length:=(List.getElem?_eq_some_iff.1 hk).1
 rcases h.2 with ⟨e,_⟩ | ⟨g',cap',cur,e,_,hc,_,_,_,ht⟩
 ·simp at e
 ·simp at e
  obtain ⟨rfl,rfl⟩:=e
  rw [cellB hc,← Array.getElem?_toList]
  rw [← ht,List.getElem?_take_of_lt (by rw [h.1] at hl;exact hl)] at hk
  exact hk
theorem news_at {w:World} {g:Nat} {arr:Array Value} {t:TypeId} (h:w.heap[g]?=some (.cells arr t)):∀ j u,arr.toList[j]?=some u→w.cell? ((⟨g,0,none⟩:Addr).add j)=some u:=fun j u hu=>by
 have e:(⟨g,0,none⟩:Addr).add j=⟨g,j,none⟩:=by simp [Addr.add];intro h;exact h.symm
 rw [e,cellB h,← Array.getElem?_toList]
 exact hu
def cellVs (x:C):List Value:=[.string x.s,.int .i64 x.c,.int .i64 x.r,.int .i64 x.a1,.int .i64 x.b1,.int .i64 x.a2,.int .i64 x.b2,.int .i64 x.a3,.int .i64 x.b3,.int .i64 x.a4,.int .i64 x.b4]
def colVs (p:Int × Int):List Value:=[.int .i64 p.1,.int .i64 p.2]
def rowVs (p:Value × R):List Value:=[p.1,.bool p.2.whole]
def OwnC (w:World) (base:Nat) (u:Value) (cs:List C):Prop:=w.ownsRow base 70 11 u cs.length (cs.flatMap cellVs)
def OwnCol (w:World) (base:Nat) (v:Value) (ps:List (Int × Int)):Prop:=w.ownsRow base 45 2 v ps.length (ps.flatMap colVs)
structure OwnR (w:World) (base:Nat) (v:Value) (ur:List (Value × R)):Prop where
 own:w.ownsRow base 65 2 v ur.length (ur.flatMap rowVs)
 cells:∀ p ∈ ur,OwnC w base p.1 p.2.cells
 apart:ur.Pairwise fun p q=>p.1.ownBlock=none∨p.1.ownBlock ≠ q.1.ownBlock
structure Off (n:Nat) (b1 b2:Option Nat) (w w':World):Prop where
 size:w.heap.size≤w'.heap.size
 block:∀ k,n≤k→k < w.heap.size→some k ≠ b1→some k ≠ b2→w'.heap[k]?=w.heap[k]?
theorem Off.bk {n r:Nat} {b1 b2:Option Nat} {w w':World} (h:Bk r w w') (hr:r < n):Off n b1 b2 w w':=⟨h.size,fun k hk hl _ _=>h.block k hl (by omega)⟩
theorem Off.grown {n:Nat} {b1 b2:Option Nat} {w w':World} (h:w.grownBy w' b2):Off n b1 b2 w w':=⟨h.size,fun k _ hl _ h2=>h.block k hl h2⟩
theorem Off.set {n g:Nat} {b2:Option Nat} (w:World) (p:Addr) (hp:p.block=g) (v:Value):Off n (some g) b2 w (w.setCell p v):=⟨by simp [World.setCell],fun k _ _ h1 _=>Below.heap_setCell _ _ _ _ (fun e=>h1 (by rw [e,hp]))⟩
theorem row_off {w w':World} {base n:Nat} {e:TypeId} {sz:Nat} {v:Value} {m:Nat} {xs:List Value} {b1 b2:Option Nat} (h:w.ownsRow base e sz v m xs) (k:Off n b1 b2 w w') (hn:n≤base) (h1:v.ownBlock=none∨v.ownBlock ≠ b1) (h2:v.ownBlock=none∨v.ownBlock ≠ b2):w'.ownsRow base e sz v m xs :=
 ⟨h.1,h.2.elim Or.inl (fun ⟨g,cap,cur,hv,hg,hc,q⟩=>Or.inr ⟨g,cap,cur,hv,hg,(k.block g (by omega) (bL hc)
  (fun e=>by subst hv;rcases h1 with h1 | h1 <;> simp [Value.ownBlock] at h1;exact h1 e)
  (fun e=>by subst hv;rcases h2 with h2 | h2 <;> simp [Value.ownBlock] at h2;exact h2 e)).trans hc,q⟩)⟩
theorem row_ne {w:World} {base base':Nat} {e e':TypeId} {sz sz':Nat} {v v':Value} {m m':Nat} {xs xs':List Value} (h:w.ownsRow base e sz v m xs) (h':w.ownsRow base' e' sz' v' m' xs') (he:e ≠ e'):v.ownBlock=none∨v.ownBlock ≠ v'.ownBlock:=by
 rcases h.2 with ⟨rfl,_⟩ | ⟨g,cap,cur,rfl,_,hc,_⟩
 ·exact .inl rfl
 ·refine .inr (fun e1=>?_)
  rcases h'.2 with ⟨rfl,_⟩ | ⟨g',cap',cur',rfl,_,hc',_⟩
  ·simp [Value.ownBlock] at e1
  ·simp [Value.ownBlock] at e1
   subst e1
   rw [hc] at hc'
   simp at hc'
   exact he hc'.2
theorem row_ne_block {w:World} {base:Nat} {e e':TypeId} {sz:Nat} {v:Value} {m:Nat} {xs:List Value} {g:Nat} {cur:Array Value} (h:w.ownsRow base e sz v m xs) (h':w.heap[g]?=some (.cells cur e')) (he:e ≠ e'):v.ownBlock=none∨v.ownBlock ≠ some g:=by
 rcases h.2 with ⟨rfl,_⟩ | ⟨g',cap,cur',rfl,_,hc,_⟩
 ·exact .inl rfl
 ·refine .inr (fun e1=>?_)
  simp [Value.ownBlock] at e1
  subst e1
  rw [hc] at h'
  simp at h'
  exact he h'.2
theorem row_lt {w:World} {base:Nat} {e:TypeId} {sz:Nat} {v:Value} {m:Nat} {xs:List Value} (h:w.ownsRow base e sz v m xs) {b:Nat} (hb:v.ownBlock=some b):base≤b∧b < w.heap.size:=by
 rcases h.2 with ⟨rfl,_⟩ | ⟨g,cap,cur,rfl,hg,hc,_⟩
 ·simp [Value.ownBlock] at hb
 ·simp [Value.ownBlock] at hb
  subst hb
  exact ⟨hg,(bL hc)⟩
theorem row_base {w:World} {base base':Nat} {e:TypeId} {sz:Nat} {v:Value} {m:Nat} {xs:List Value} (h:w.ownsRow base e sz v m xs) (hb:base'≤base):w.ownsRow base' e sz v m xs :=
 ⟨h.1,h.2.elim Or.inl (fun ⟨g,cap,cur,hv,hg,q⟩=>Or.inr ⟨g,cap,cur,hv,by omega,q⟩)⟩
theorem OwnR.off {w w':World} {base n:Nat} {v:Value} {ur:List (Value × R)} {b1 b2:Option Nat} (h:OwnR w base v ur) (k:Off n b1 b2 w w') (hn:n≤base) (h1:v.ownBlock=none∨v.ownBlock ≠ b1) (h2:v.ownBlock=none∨v.ownBlock ≠ b2)
  (hc:∀ p ∈ ur,(p.1.ownBlock=none∨p.1.ownBlock ≠ b1)∧(p.1.ownBlock=none∨p.1.ownBlock ≠ b2)):OwnR w' base v ur :=
 ⟨row_off h.own k hn h1 h2,fun p hp=>row_off (h.cells p hp) k hn (hc p hp).1 (hc p hp).2,h.apart⟩
def OffV (v:Value) (b1 b2:Option Nat):Prop:=(v.ownBlock=none∨v.ownBlock ≠ b1)∧(v.ownBlock=none∨v.ownBlock ≠ b2)
theorem getD_get {α:Type} {l:List α} {i:Nat} (d:α) (h:i < l.length):l.getD i d=l[i]:=by simp [List.getD,h]
theorem OwnC.at {w:World} {base:Nat} {u:Value} {cs:List C} (h:OwnC w base u cs) (hs:∀ x ∈ cs,x.s.size≤61):CellsAt w base u cs:=by
 rcases h.2 with ⟨rfl,hn⟩ | ⟨g,cap,cur,rfl,hg,hc,h1,h2,_⟩
 ·exact ⟨none,0,by rw [hn],by omega,by unfold maxLen;omega,fun i hi=>by omega⟩
 ·refine ⟨_,cap,rfl,h1,h2,fun i hi=>⟨g,0,rfl,(bL hc),hg,?_,?_⟩⟩
  ·have hx:∀ j,j < 11→w.cell? ⟨g,i * 11+j,none⟩=(cellVs cs[i])[j]?:=fun j hj=>by
    have e:=flat_get cellVs 11 (fun _=>rfl) cs i hi j hj
    rw [row_cell h (u:=(cellVs cs[i])[j]'(by show j < 11;exact hj)) (by rw [e];simp)]
    simp
   rw [getD_get dC hi,Nat.zero_add]
   exact ⟨hx 0 (by omega),hx 1 (by omega),hx 2 (by omega),hx 3 (by omega),hx 4 (by omega),hx 5 (by omega),hx 6 (by omega),hx 7 (by omega),hx 8 (by omega),hx 9 (by omega),hx 10 (by omega)⟩
  ·rw [getD_get dC hi]
   have:=hs _ (List.getElem_mem hi)
   unfold maxLen
   omega
theorem OwnCol.at {w:World} {base:Nat} {u:Value} {ps:List (Int × Int)} (h:OwnCol w base u ps):ColsAt w base u ps:=by
 rcases h.2 with ⟨rfl,hn⟩ | ⟨g,cap,cur,rfl,hg,hc,h1,h2,_⟩
 ·exact ⟨none,0,by rw [hn],by omega,by unfold maxLen;omega,fun i hi=>by omega⟩
 ·refine ⟨_,cap,rfl,h1,h2,fun i hi=>⟨g,0,rfl,(bL hc),hg,?_⟩⟩
  have hx:∀ j,j < 2→w.cell? ⟨g,i * 2+j,none⟩=(colVs ps[i])[j]?:=fun j hj=>by
   have e:=flat_get colVs 2 (fun _=>rfl) ps i hi j hj
   rw [row_cell h (u:=(colVs ps[i])[j]'(by show j < 2;exact hj)) (by rw [e];simp)]
   simp
  dsimp only
  rw [getD_get (0,0) hi,Nat.zero_add]
  exact ⟨hx 0 (by omega),hx 1 (by omega)⟩
theorem OwnR.at {w:World} {base:Nat} {v:Value} {ur:List (Value × R)} (h:OwnR w base v ur) (hs:∀ p ∈ ur,∀ x ∈ p.2.cells,x.s.size≤61):RowsAt w base v (ur.map (·.2)):=by
 have hl:(ur.map (·.2)).length=ur.length:=by simp
 rcases h.own.2 with ⟨rfl,hn⟩ | ⟨g,cap,cur,rfl,hg,hc,h1,h2,_⟩
 ·exact ⟨none,0,by rw [hl,hn],by rw [hl];omega,by unfold maxLen;omega,fun i hi=>by rw [hl] at hi;omega⟩
 ·refine ⟨_,cap,by rw [hl],by rw [hl];exact h1,h2,fun i hi=>⟨g,0,rfl,(bL hc),hg,?_⟩⟩
  rw [hl] at hi
  have hx:∀ j,j < 2→w.cell? ⟨g,i * 2+j,none⟩=(rowVs ur[i])[j]?:=fun j hj=>by
   have e:=flat_get rowVs 2 (fun _=>rfl) ur i hi j hj
   rw [row_cell h.own (u:=(rowVs ur[i])[j]'(by show j < 2;exact hj)) (by rw [e];simp)]
   simp
  have hm:=List.getElem_mem hi
  dsimp only
  rw [getD_get dR (by rw [hl];exact hi),Nat.zero_add,List.getElem_map]
  exact ⟨ur[i].1,hx 0 (by omega),hx 1 (by omega),(h.cells _ hm).at (hs _ hm)⟩
theorem OwnR.base {w:World} {base base':Nat} {v:Value} {ur:List (Value × R)} (h:OwnR w base v ur) (hb:base'≤base):OwnR w base' v ur:=⟨row_base h.own hb,fun p hp=>row_base (h.cells p hp) hb,h.apart⟩
def brdOkB (a b:Int):Bool:=decide ((a=0∨a=4)∧b=0∨(1≤a∧a≤3)∧1≤b∧b≤3)
theorem brd_zero (b:Int):brdOkB 0 b=(b == 0):=by rw [Bool.eq_iff_iff];simp [brdOkB]
theorem brd_four (b:Int):brdOkB 4 b=(b == 0):=by rw [Bool.eq_iff_iff];simp [brdOkB];
theorem brd_seen {a:Int} (b:Int) (h1:1≤a) (h2:a≤3):brdOkB a b=inB b 1 3:=by rw [Bool.eq_iff_iff];simp [brdOkB,inB];omega
theorem brd_other {a:Int} (b:Int) (h0:a ≠ 0) (h4:a ≠ 4) (h:¬ (1≤a∧a≤3)):brdOkB a b=false:=by simp [brdOkB];omega
def cellOkB (s:ByteArray) (c r a1 b1 a2 b2 a3 b3 a4 b4:Int):Bool:=txtOkB s && (inB c 1 4 && (inB r 1 4 && (brdOkB a1 b1 && (brdOkB a2 b2 && (brdOkB a3 b3 && brdOkB a4 b4)))))
theorem Hid.mk {p:Prop} (h:p):Hid p:=h
def colB (k n:Int):Bool:=decide (k=0∧n=0∨k=1∧0≤n∧n≤60∨k=2∧1≤n∧n≤100)
theorem colB_0 (n:Int):colB 0 n=inB n 0 0:=by rw [Bool.eq_iff_iff];simp [colB,inB];omega
theorem colB_0' (n:Int):colB 0 n=(n == 0):=by rw [Bool.eq_iff_iff];simp [colB]
theorem colB_1 (n:Int):colB 1 n=inB n 0 60:=by rw [Bool.eq_iff_iff];simp [colB,inB]
theorem colB_2 (n:Int):colB 2 n=inB n 1 100:=by rw [Bool.eq_iff_iff];simp [colB,inB]
theorem colB_no {k:Int} (n:Int) (h0:k ≠ 0) (h1:k ≠ 1) (h2:k ≠ 2):colB k n=false:=by simp [colB];omega
def cB (x:C):Bool:=cellOkB x.s x.c x.r x.a1 x.b1 x.a2 x.b2 x.a3 x.b3 x.a4 x.b4
def rowB (r:R):Bool:=decide (r.cells.length≤5) && r.cells.all cB
def colsB (ps:List (Int × Int)):Bool:=decide (ps.length≤8) && ps.all (fun p=>colB p.1 p.2)
def partsB (n:Nat) (hd ft:Int):Bool:=inB hd 0 n && inB ft 0 (n - hd)
theorem all_true {α:Type} (d:α) (p:α→Bool) (l:List α) (h:∀ j,j < l.length→p (l.getD j d)=true):l.all p=true:=by
 rw [List.all_eq_true]
 intro x hx
 obtain ⟨j,hj,rfl⟩:=List.getElem_of_mem hx
 have e:l.getD j d=l[j]:=by simp [List.getD,hj]
 rw [← e];exact h j hj
theorem all_false {α:Type} (d:α) (p:α→Bool) (l:List α) (k:Nat) (hk:k < l.length) (h:p (l.getD k d)=false):l.all p=false:=by
 have e:l.getD k d=l[k]:=by simp [List.getD,hk]
 rw [e] at h
 cases hb:l.all p with
 | false=>rfl
 | true=>rw [List.all_eq_true.1 hb _ (List.getElem_mem hk)] at h;cases h
theorem next_true {α:Type} {d:α} {p:α→Bool} {l:List α} {k:Nat} (h:∀ j,j < k→p (l.getD j d)=true) (hk:p (l.getD k d)=true):∀ j,j < k+1→p (l.getD j d)=true:=by
 intro j hj
 rcases Nat.lt_or_eq_of_le (Nat.lt_succ_iff.1 hj) with h1 | h1
 ·exact h j h1
 ·rw [h1];exact hk
def tblB (t:T):Bool:=inB t.rows.length 1 8 && (partsB t.rows.length t.head t.foot && (inB t.gap 0 3 && (colsB t.cols && t.rows.all rowB)))
theorem newestO (w:World) (q:Obj):(w.alloc q).heap[w.heap.size]?=some q:=by show (w.heap.push q)[w.heap.size]?=_;simp
theorem fiveO {w:World} {g:Nat} {x0 x1 x2 x3 x4:Value} {t:TypeId} (h:w.heap[g]?=some (.cells #[x0,x1,x2,x3,x4] t)) :
  w.cell? ⟨g,0,none⟩=some x0∧w.cell? ⟨g,1,none⟩=some x1∧w.cell? ⟨g,2,none⟩=some x2∧w.cell? ⟨g,3,none⟩=some x3∧w.cell? ⟨g,4,none⟩=some x4 :=
 ⟨Joins.cell_of_block h 0,Joins.cell_of_block h 1,Joins.cell_of_block h 2,Joins.cell_of_block h 3,Joins.cell_of_block h 4⟩
def partOf (t:T) (q:Int):Int:=if tblB t=true∧inB q 0 (t.rows.length - 1)=true then (if q < t.head then 0 else if t.rows.length - t.foot≤q then 2 else 1) else -1
theorem retIP {a b:Int} (h:a=b):Ending.returned (.int .i64 a)=.returned (.int .i64 b):=by rw [h]
theorem tblB_bounds {t:T} (h:tblB t=true):(1≤t.rows.length∧t.rows.length≤8)∧(0≤t.head∧t.head≤t.rows.length)∧0≤t.foot∧t.foot≤t.rows.length:=by
 simp only [tblB,partsB,Bool.and_eq_true] at h
 have h1:(1:Int)≤t.rows.length∧(t.rows.length:Int)≤8:=of_decide_eq_true h.1
 have h2:0≤t.head∧t.head≤t.rows.length:=of_decide_eq_true h.2.1.1
 have h3:0≤t.foot∧t.foot≤t.rows.length - t.head:=of_decide_eq_true h.2.1.2
 omega
theorem l1Max_any (a b:Int) (w:World):Calls Tryz.prog 64 #[.int .i64 a,.int .i64 b] w fun e w'=>e=.returned (.int .i64 (max a b))∧w'=w:=by
 by_cases h:b < a
 ·have HE:Hid (max a b=a):=Hd (by omega)
  go_enter Tryz.func64,Tryz.ntmps64
  go_wp2
  go_ret
  exact ⟨retI64 HE.out.symm,rfl⟩
 ·have HE:Hid (max a b=b):=Hd (by omega)
  go_enter Tryz.func64,Tryz.ntmps64
  go_wp2
  go_ret
  exact ⟨retI64 HE.out.symm,rfl⟩
set_option maxRecDepth 100000 in
set_option maxHeartbeats 1000000 in
theorem l2End_any (ac ar:Option Addr) (cc cr:Nat) (t:T) (hb:t.rows.length≤8∧0≤t.foot∧t.foot≤t.rows.length) (r:Nat) (w:World) :
  Calls Tryz.prog 65 #[.agg #[.slice ac t.cols.length cc,.int .i64 t.head,.int .i64 t.foot,.slice ar t.rows.length cr,.int .i64 t.gap],.int .i64 (r:Int)] w fun e w'=>e=.returned (.int .i64 (endOf t r))∧Below w.heap.size w w':=by
 obtain ⟨h1,h2,h3⟩:=hb
 by_cases c1:(r:Int) < t.head
 ·have HE:Hid (endOf t r=t.head):=Hd (by unfold endOf;rw [if_pos c1])
  go_enter Tryz.func65,Tryz.ntmps65
  go_wp2
  go_ret
  exact ⟨retI64 HE.out.symm,by repeat (first | exact Below.refl _ _ | apply k_alloc)⟩
 ·by_cases c2:(t.rows.length:Int) - t.foot≤r
  ·have HE:Hid (endOf t r=t.rows.length):=Hd (by unfold endOf;rw [if_neg c1,if_pos c2])
   go_enter Tryz.func65,Tryz.ntmps65
   go_wp2
   go_ret
   exact ⟨retI64 HE.out.symm,by repeat (first | exact Below.refl _ _ | apply k_alloc)⟩
  ·have HE:Hid (endOf t r=t.rows.length - t.foot):=Hd (by unfold endOf;rw [if_neg c1,if_neg c2])
   go_enter Tryz.func65,Tryz.ntmps65
   go_wp2
   go_ret
   exact ⟨retI64 HE.out.symm,by repeat (first | exact Below.refl _ _ | apply k_alloc)⟩
def gcVs (x:GC):List Value:=[.int .i64 x.row,.int .i64 x.col,.int .i64 x.rows,.int .i64 x.cols,.int .i64 x.ins]
def OwnG (w:World) (base:Nat) (v:Value) (gs:List GC):Prop:=w.ownsRow base 49 5 v gs.length (gs.flatMap gcVs)
theorem OwnG.at {w:World} {base:Nat} {v:Value} {gs:List GC} (h:OwnG w base v gs) (hs:∀ x ∈ gs,GOk x):GsAt w base v gs:=by
 rcases h.2 with ⟨rfl,hn⟩ | ⟨g,cap,cur,rfl,hg,hc,h1,h2,_⟩
 ·exact ⟨none,0,by rw [hn],by omega,by unfold maxLen;omega,fun i hi=>by omega⟩
 ·refine ⟨_,cap,rfl,h1,h2,fun i hi=>⟨g,0,rfl,(bL hc),hg,?_,?_⟩⟩
  ·have hx:∀ j,j < 5→w.cell? ⟨g,i * 5+j,none⟩=(gcVs gs[i])[j]?:=fun j hj=>by
    have e:=flat_get gcVs 5 (fun _=>rfl) gs i hi j hj
    rw [row_cell h (u:=(gcVs gs[i])[j]'(by show j < 5;exact hj)) (by rw [e];simp)]
    simp
   rw [getD_get dG hi,Nat.zero_add]
   exact ⟨hx 0 (by omega),hx 1 (by omega),hx 2 (by omega),hx 3 (by omega),hx 4 (by omega)⟩
  ·rw [getD_get dG hi]
   exact hs _ (List.getElem_mem hi)
theorem Stands.gok {n:Nat} {a:GC} (hn:n≤8) (h:Stands n a):GOk a:=by
 unfold Stands at h
 unfold GOk I64
 omega
theorem Stands.sm {n:Nat} {a:GC} (hn:n≤8) (h:Stands n a):Sm a:=by
 unfold Stands at h
 unfold Sm
 omega
theorem infoGC:(Tryz.prog.info? 49).map (fun i=>(i.zero,i.size,i.bytes))=some (some (Value.agg #[.int .i64 0,.int .i64 0,.int .i64 0,.int .i64 0,.int .i64 0]),5,40):=by kernel_rfl
end Go.Proofs.YtggmjiddadjilaeGreat
namespace Go.Proofs.YtggmjiddadjilaeGreat
open Go.RowKit
def upd (L:Nat→Bool) (i:Nat):Nat→Bool:=fun j=>if j=i then true else L j
theorem upd_ne {L:Nat→Bool} {i j:Nat} (h:(j == i)=false):upd L i j=L j:=by
 unfold upd
 rw [if_neg (fun e=>by rw [e] at h;simp at h)]
theorem un {L:Nat→Bool} {i j:Nat} {b:Bool} (h:upd L i j=b) (e:(j == i)=false:=by rfl):L j=b:=by rwa [upd_ne e] at h
theorem uq {L:Nat→Bool} {i j:Nat} {b:Bool} {P:Prop} (f:L j=b→P) (e:(j == i)=false:=by rfl):upd L i j=b→P:=fun h=>f (un h e)
theorem uf {L:Nat→Bool} {i j:Nat} {P:Prop} (h0:L j=false) (e:(j == i)=false:=by rfl):upd L i j=true→P:=fun h=>absurd (un h e) (by rw [h0];simp)
theorem ub {L:Nat→Bool} {i j a:Nat} {Q X:Nat→Prop} (f:L j=true→∃ g,Q g∧(L a=false→X g)) (e:(j == i)=false:=by rfl) (e2:(a == i)=false:=by rfl):upd L i j=true→∃ g,Q g∧(upd L i a=false→X g):=fun h=>(f (un h e)).elim (fun g hg=>⟨g,hg.1,fun h2=>hg.2 (un h2 e2)⟩)
theorem upd_self {L:Nat→Bool} {i:Nat}:upd L i i=true:=by simp [upd]
def aheadB (ops:Array Oper):Bool:=(List.range ops.size).all fun i=>((ops[i]?).map fun o=>o.after.all fun e=>!Region.binds .any e || decide (e.on < i)).getD true
theorem ahead_all {ops:Array Oper} (h:aheadB ops=true) {listed:Array Bool} (hs:listed.size=ops.size) (hr:Region.ready .any ops listed=[]):∀ i,i < ops.size→listed.getD i false=true:=by
 intro i
 induction i using Nat.strongRecOn with
 | ind i ih =>
  intro hi
  cases hl:listed.getD i false with
  | true=>rfl
  | false =>
   exfalso
   have ho:ops[i]?=some ops[i]:=Array.getElem?_eq_getElem hi
   have h1:=List.all_eq_true.1 h i (List.mem_range.2 hi)
   rw [ho] at h1
   simp only [Option.map_some,Option.getD_some] at h1
   have hm:i ∈ Region.ready .any ops listed:=by
    unfold Region.ready
    rw [List.mem_filter]
    refine ⟨List.mem_range.2 hi,?_⟩
    have h2:listed.getD i true=false:=by
     rw [Array.getD_eq_getD_getElem?,Array.getElem?_eq_getElem (by omega)] at hl ⊢
     exact hl
    rw [h2,ho]
    simp only [Bool.not_false,Bool.true_and,Option.map_some,Option.getD_some]
    rw [Array.all_eq_true_iff_forall_mem]
    intro e he
    have h3:=Array.all_eq_true_iff_forall_mem.1 h1 e he
    cases hbn:Region.binds .any e with
    | false=>simp
    | true =>
     rw [hbn] at h3
     have h4:e.on < i:=by simpa using h3
     rw [ih e.on h4 (by omega)]
     simp
   rw [hr] at hm
   cases hm
theorem listed_set {listed:Array Bool} {i:Nat} (hi:i < listed.size):(fun j=>(listed.setIfInBounds i true).getD j false)=upd (fun j=>listed.getD j false) i:=by
 funext j
 unfold upd
 rw [Array.getD_eq_getD_getElem?]
 by_cases h:j=i
 ·subst h;simp [hi]
 ·rw [if_neg h,Array.getElem?_setIfInBounds_ne (Ne.symm h)]
  exact (Array.getD_eq_getD_getElem? ..).symm
theorem count_set {l:List Bool} {i:Nat} (h:l[i]?=some false):(l.set i true).count false+1=l.count false:=by
 induction l generalizing i with
 | nil=>simp at h
 | cons a t ih =>
  cases i with
  | zero=>simp at h;subst h;simp
  | succ i =>
   simp at h
   have:=ih h
   rw [List.set_cons_succ,List.count_cons,List.count_cons]
   omega
section
variable {P:Program} {ops:Array Oper} {Q:Exit→Act→World→Prop} (J:(Nat→Bool)→Act→World→Prop)
theorem wpAny_inv (hord:aheadB ops=true)
  (hs:∀ (L:Nat→Bool) (a:Act) (w:World) (i:Nat) (o:Oper),J L a w→ops[i]?=some o→L i=false→(∀ e ∈ o.after,Region.binds .any e=true→L e.on=true) →
   ∀ K:Act→World→Prop,(∀ a' w',J (upd L i) a' w'→K a' w')→if Region.wanted o (yielded ops a.tmps)=true then o.wp P a w K Q else K (a.put o.dst undef) w)
  (hd:∀ (L:Nat→Bool) (a:Act) (w:World),J L a w→(∀ i,i < ops.size→L i=true)→Q .normal a w) :
  ∀ (fuel:Nat) (listed:Array Bool) (a:Act) (w:World),listed.size=ops.size→listed.toList.count false≤fuel→J (fun j=>listed.getD j false) a w→wpAny P .any ops Q fuel listed a w:=by
 intro fuel
 induction fuel with
 | zero =>
  intro listed a w hsz hc hJ
  have hall:∀ i,i < ops.size→listed.getD i false=true:=by
   intro i hi
   have h0:listed.toList.count false=0:=by omega
   have hi':i < listed.size:=by omega
   have:=List.count_eq_zero.1 h0
   have hm:listed[i] ∈ listed.toList:=by simp
   rw [Array.getD_eq_getD_getElem?,Array.getElem?_eq_getElem hi',Option.getD_some]
   cases hv:listed[i] with
   | true=>rfl
   | false=>rw [hv] at hm;exact absurd hm this
  refine ⟨?_,hd _ _ _ hJ hall⟩
  unfold Region.ready
  rw [List.filter_eq_nil_iff]
  intro i hi
  have hi2:=List.mem_range.1 hi
  have:=hall i hi2
  have h3:listed.getD i true=true:=by
   rw [Array.getD_eq_getD_getElem?,Array.getElem?_eq_getElem (by omega)] at this ⊢
   exact this
  rw [h3];simp
 | succ fuel ih =>
  intro listed a w hsz hc hJ
  refine ⟨fun hr=>hd _ _ _ hJ (ahead_all hord hsz hr),fun i hi=>?_⟩
  unfold Region.ready at hi
  rw [List.mem_filter] at hi
  obtain ⟨h1,h2⟩:=hi
  have hlt:=List.mem_range.1 h1
  have ho:ops[i]?=some ops[i]:=Array.getElem?_eq_getElem hlt
  rw [ho] at h2
  simp only [Option.map_some,Option.getD_some,Bool.and_eq_true] at h2
  obtain ⟨h3,h4⟩:=h2
  have hil:i < listed.size:=by omega
  have hv:listed[i]=false:=by
   rw [Array.getD_eq_getD_getElem?,Array.getElem?_eq_getElem hil] at h3
   simpa using h3
  have hfi:listed.getD i false=false:=by rw [Array.getD_eq_getD_getElem?,Array.getElem?_eq_getElem hil,hv];rfl
  have hstep:=hs _ a w i ops[i] hJ ho hfi (fun e he hb=>by
   have:=Array.all_eq_true_iff_forall_mem.1 h4 e he
   rw [hb] at this
   simpa using this) (wpAny P .any ops Q fuel (listed.setIfInBounds i true)) (fun a' w' hJ'=>ih _ a' w' (by simpa using hsz) (by
    have:=count_set (l:=listed.toList) (i:=i) (by rw [Array.getElem?_toList,Array.getElem?_eq_getElem hil,hv])
    rw [Array.toList_setIfInBounds]
    omega) (by rw [listed_set hil];exact hJ'))
  unfold wpOp
  rw [ho]
  dsimp only
  split
  ·rename_i hw;rw [if_pos hw] at hstep;exact .inl hstep
  ·rename_i hw;rw [if_neg hw] at hstep;exact hstep
theorem wp_region_inv {id:Nat} {a:Act} {w:World} (hm:P.follows .mixedOrders=true) (hord:aheadB ops=true)
  (hs:∀ (L:Nat→Bool) (a:Act) (w:World) (i:Nat) (o:Oper),J L a w→ops[i]?=some o→L i=false→(∀ e ∈ o.after,Region.binds .any e=true→L e.on=true) →
   ∀ K:Act→World→Prop,(∀ a' w',J (upd L i) a' w'→K a' w')→if Region.wanted o (yielded ops a.tmps)=true then o.wp P a w K Q else K (a.put o.dst undef) w)
  (hd:∀ (L:Nat→Bool) (a:Act) (w:World),J L a w→(∀ i,i < ops.size→L i=true)→Q .normal a w)
  (h0:J (fun _=>false) a w.drew):(Code.region id ops true).wp P Q a w:=by
 refine wp_region_any hm (wpAny_inv J hord hs hd _ _ _ _ (by simp) (by simp) ?_)
 have e:(fun j=>(Array.replicate ops.size false).getD j false)=fun _=>false:=by
  funext j
  rw [Array.getD_eq_getD_getElem?]
  by_cases h:j < ops.size <;> simp [h]
 rw [e]
 exact h0
end
end Go.Proofs.YtggmjiddadjilaeGreat
namespace Go.Proofs.YtggmjiddadjilaeGreat
open Go.RowKit
def Hp (n0:Nat) (w:World) (g:Nat) (o:Obj):Prop:=n0≤g∧w.heap[g]?=some o
theorem Hp.lt {n0 g:Nat} {w:World} {o:Obj} (h:Hp n0 w g o):g < w.heap.size:=(bL h.2)
theorem Hp.bk {n0 g r:Nat} {w w':World} {o:Obj} (h:Hp n0 w g o) (hr:r < n0) (k:Bk r w w'):Hp n0 w' g o:=⟨h.1,(k.block g h.lt (by have:=h.1;omega)).trans h.2⟩
theorem Hp.alloc {n0 g:Nat} {w:World} {o:Obj} (h:Hp n0 w g o) (q:Obj):Hp n0 (w.alloc q) g o:=⟨h.1,(Below.heap_alloc _ _ _ h.lt).trans h.2⟩
theorem Hp.new {n0:Nat} {w:World} (h:n0≤w.heap.size) (q:Obj):Hp n0 (w.alloc q) w.heap.size q:=⟨h,by show (w.heap.push q)[w.heap.size]?=_;simp⟩
def PI (lo hi:Int) (u:Value):Prop:=∃ k:Int,u=.int .i64 k∧lo≤k∧k≤hi
def PS (n:Nat) (u:Value):Prop:=∃ s:ByteArray,u=.string s∧s.size≤n
def PL (n0:Nat) (w:World) (n:Nat) (arr:Array Value) (u:Value):Prop:=∃ g,u=.slice (some ⟨g,0,none⟩) n n∧Hp n0 w g (.cells arr 3)
def PA (n0:Nat) (w:World) (lo hi:Int) (u:Value):Prop:=∃ g k arr,u=.pointer (some ⟨g,k,none⟩)∧Hp n0 w g (.cells arr 3)∧∃ v:Int,arr[k]?=some (.int .i64 v)∧lo≤v∧v≤hi
theorem PL.bk {n0 n r:Nat} {w w':World} {arr:Array Value} {u:Value} (h:PL n0 w n arr u) (hr:r < n0) (k:Bk r w w'):PL n0 w' n arr u:=by
 obtain ⟨g,e,hg⟩:=h;exact ⟨g,e,hg.bk hr k⟩
theorem PA.bk {n0 r:Nat} {w w':World} {lo hi:Int} {u:Value} (h:PA n0 w lo hi u) (hr:r < n0) (k:Bk r w w'):PA n0 w' lo hi u:=by
 obtain ⟨g,k',arr,e,hg,hv⟩:=h;exact ⟨g,k',arr,e,hg.bk hr k,hv⟩
theorem bk_alloc (r:Nat) (w:World) (o:Obj):Bk r w (w.alloc o):=(Bk.refl r w).alloc o
end Go.Proofs.YtggmjiddadjilaeGreat
