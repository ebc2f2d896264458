/-
  PROVED HERE: what is shared is all of it; who weighs nothing gets nothing; who weighs more gets no less; plain theory. Also: 14 more texts of the same proof.
-/
import Derived.Test.YtggmjiddadjilamC17
import Derived.Test.YtggmjiddadjilamC10
import Derived.Deep.Cut
set_option maxRecDepth 1000000
set_option maxHeartbeats 40000000
namespace Go.Proofs.Ytggmjiddadjilam
section
open Go.Sort
instance:DecidableEq Cl:=fun a b=>decidable_of_iff (a.p=b.p∧a.w=b.w∧a.o=b.o) (by cases a;cases b;simp)
theorem z9M {l:List Int}:∀ {i:Nat},i < l.length→∀ x,(l.set i x).sum=l.sum - l.getD i 0+x:=by
 induction l with
 | nil=>intro i hi;cases hi
 | cons y r ih =>
  intro i hi x
  cases i with
  | zero=>simp [List.getD];omega
  | succ k =>
   have:=ih (i:=k) (by simpa using hi) x;simp only [List.set_cons_succ,List.sum_cons,this];simp [List.getD];omega
theorem z8Z {g:List Int} {c:Cl} (h:c.p.toNat < g.length):(z3y g c).sum=g.sum+1:=by
 rw [z3y,z9M h];omega
theorem z5k {t:Int} {u:List Int} {g:List Int} (hg:g.length=u.length):∀ k,k≤(z0E t u).length→(z0X g (z0E t u) k).sum=g.sum+k
 | 0,_=>by rw [z3g];omega
 | k+1,hk=>by
  have hlt:k < (z0E t u).length:=(by omega);obtain ⟨i,hi,he⟩:=z62 (List.getElem_mem hlt);rw [z3h hlt,z8Z (by rw [he,z8Y,z2Q,hg];simpa using hi),z5k hg k (by omega)];omega
theorem z5l {t:Int} {l:List Int} (h1:zR t l=true) (h0:0 < l.length):(z0c t l).sum=t:=by
 have hw:=(z1r h1).2;have hp:=z3R hw.2 h0;have hk:=z2P h1;have hl:=z4Z hk hp;rw [z2k h1 (List.length_pos_iff.1 h0),z5k (z0A _ _) _ (by rw [z3f];omega)];have:=z2G hk hp (wts l).length (Nat.le_refl _);rw [← z0A t (wts l),z2o,z0A] at this;omega
end
section
open Go.RowKit
theorem z7r (n:Int):wrap64 n=(n+9223372036854775808) % 18446744073709551616 - 9223372036854775808:=by unfold wrap64;rfl
theorem z82 (a b:Int):wrap64 (wrap64 a+b)=wrap64 (a+b):=by simp only [z7r];omega
theorem zae (a b:Int):wrap64 (a+wrap64 b)=wrap64 (a+b):=by simp only [z7r];omega
theorem z78 {a:Int} (h:-9223372036854775808≤a∧a≤9223372036854775807):wrap64 a=a:=by rw [z7r];omega
def z83 (l:List Int) (col:Int):Nat:=(min (max col 0) l.length).toNat
def atV (l:List Int) (gap col:Int):Int:=wrap64 (z0C l (z83 l col)+gap * (z83 l col:Nat))
def zbb (l:List Int) (gap col:Int):Int:=if inB col 0 (l.length - 1)=true then wrap64 (atV l gap col+l.getD col.toNat 0) else 0
def zaf (l:List Int) (p:Nat→Bool):Nat→List Int
 | 0=>[]
 | k+1=>if p k=true then zaf l p k ++ [l.getD k 0] else zaf l p k
def z2c (xs:List Int) (gap:Int):Int:=if xs.length=0 then 0 else wrap64 (xs.sum+gap * ((xs.length:Int) - 1))
theorem z90 {xs:List Int} (h:xs.length=0) (gap:Int):z2c xs gap=0:=by unfold z2c;rw [if_pos h]
theorem z5m {xs:List Int} (h:xs.length ≠ 0) (gap:Int):z2c xs gap=wrap64 (xs.sum+gap * ((xs.length:Int) - 1)):=by unfold z2c;rw [if_neg h]
theorem z0x.take {w:World} {a:Option Addr} {n cap:Nat} {l:List Int} (h:z0x w (.slice a n cap) l) {m:Nat} (hm:m≤l.length):z0x w (.slice a m cap) (l.take m):=by
 obtain ⟨a',cap',hv,h1,h2,h3⟩:=h;simp only [Value.slice.injEq] at hv;obtain ⟨rfl,rfl,rfl⟩:=hv;have hl:(l.take m).length=m:=(by rw [List.length_take];omega);refine ⟨a,cap,by rw [hl],by omega,h2,fun i hi=>?_⟩;rw [hl] at hi;obtain ⟨b,off,h4,h5,h6⟩:=h3 i (by omega);refine ⟨b,off,h4,h5,?_⟩;rw [h6];simp [List.getD,hi]
def z0d (l:List Int) (c m:Nat):List Int:=(l.drop c).take m
theorem z0Z {l:List Int} {c m:Nat} (h:c+m≤l.length):(z0d l c m).length=m:=by unfold z0d;rw [List.length_take,List.length_drop];omega
theorem z3i {l:List Int} {c m k:Nat} (_:c+m≤l.length) (hk:k < m):(z0d l c m).getD k 0=l.getD (c+k) 0:=by
 unfold z0d;simp [List.getD,List.getElem?_take_of_lt hk,List.getElem?_drop]
theorem z4c {l:List Int} {c m:Nat} {x:Int} (h:x ∈ z0d l c m):x ∈ l:=List.mem_of_mem_drop (List.mem_of_mem_take h)
def z1G (l:List Int) (c:Nat) (z0f:List Int):Nat→List Int
 | 0=>l
 | k+1=>(z1G l c z0f k).set (c+k) (l.getD (c+k) 0+z0f.getD k 0)
theorem z2p (l:List Int) (c:Nat) (z0f:List Int):∀ k,(z1G l c z0f k).length=l.length
 | 0=>rfl
 | k+1=>by rw [z1G,List.length_set,z2p l c z0f k]
theorem z2S (l:List Int) (c:Nat) (z0f:List Int) {i:Nat}:∀ k,(∀ j,j < k→c+j ≠ i)→(z1G l c z0f k).getD i 0=l.getD i 0
 | 0,_=>rfl
 | k+1,h=>by
  rw [z1G];simp only [List.getD,List.getElem?_set_ne (h k (by omega))];exact z2S l c z0f k (fun j hj=>h j (by omega))
theorem z4d (l:List Int) (c:Nat) (z0f:List Int) {j:Nat}:∀ k,j < k→c+k≤l.length→(z1G l c z0f k).getD (c+j) 0=l.getD (c+j) 0+z0f.getD j 0
 | k+1,h,hl=>by
  rw [z1G];by_cases e:j=k
  ·subst e;have:c+j < (z1G l c z0f j).length:=(by rw [z2p];omega);simp [List.getD,this]
  ·have:=z4d l c z0f (j:=j) k (by omega) (by omega);simp only [List.getD,List.getElem?_set_ne (show c+k ≠ c+j by omega)];exact this
def z0h (l:List Int) (c m:Nat) (gap need:Int):Int:=need - ((z0d l c m).sum+gap * ((m:Int) - 1))
def z1H (l:List Int) (c m:Nat) (gap need:Int):List Int:=if z0h l c m gap need≤0 then l else z1G l c (z0c (z0h l c m gap need) (z0d l c m)) m
theorem z5n (l:List Int) (c m:Nat) (gap need:Int):(z1H l c m gap need).length=l.length:=by unfold z1H;split;rfl;exact z2p _ _ _ _
def UpB (l:List Int) (B:Int):Prop:=∀ i,i < l.length→0≤l.getD i 0∧l.getD i 0≤B
theorem UpB.mem {l:List Int} {B:Int} (h:UpB l B) {x:Int} (hx:x ∈ l):0≤x∧x≤B:=by
 obtain ⟨i,hi,rfl⟩:=List.mem_iff_getElem.1 hx;have:=h i hi
 simpa [List.getD,hi] using this
theorem z51:∀ {l:List Int} {B:Int},(∀ x ∈ l,0≤x∧x≤B)→0≤l.sum∧l.sum≤l.length * B
 | [],_,_=>by simp
 | a :: l,B,h=>by
  have h1:=h a (by simp);have h2:=z51 (l:=l) (B:=B) (fun x hx=>h x (by simp [hx]));rw [List.sum_cons,List.length_cons,show ((l.length+1:Nat):Int) * B=l.length * B+B by rw [show ((l.length+1:Nat):Int)=(l.length:Int)+1 by omega,Int.add_mul,Int.one_mul]];omega
theorem z4u:∀ {l:List Int} {x:Int},(∀ y ∈ l,0≤y)→x ∈ l→x≤l.sum
 | a :: l,x,h,hx=>by
  have h1:=h a (by simp);rw [List.sum_cons]
  rcases List.mem_cons.1 hx with rfl | hx
  ·have:0≤l.sum:=by
    clear hx h1
    induction l with
    | nil=>simp
    | cons b l ih =>
     have hb:=h b (by simp);have:=ih (fun y hy=>h y (by rcases List.mem_cons.1 hy with rfl | hy;exact List.mem_cons_self;exact List.mem_cons_of_mem _ (List.mem_cons_of_mem _ hy)));rw [List.sum_cons];omega
   omega
  ·have:=z4u (fun y hy=>h y (List.mem_cons_of_mem _ hy)) hx;omega
theorem z52 {l:List Int} {c m:Nat} {gap need:Int} (hb:UpB l 50000) (hc:c+m≤l.length) (hm:1≤m∧m≤4) (hg:0≤gap∧gap≤3) (hn:need≤30) (hl:0 < z0h l c m gap need) :
  zR (z0h l c m gap need) (z0d l c m)=true∧z0h l c m gap need≤30:=by
 have hs:=(z51 (fun x (hx:x ∈ z0d l c m)=>hb.mem (z4c hx))).1;have hgm:0≤gap * ((m:Int) - 1):=Int.mul_nonneg hg.1 (by omega);have h30:z0h l c m gap need≤30:=(by unfold z0h;omega);refine ⟨?_,h30⟩;simp only [zR,wtB,Bool.and_eq_true,decide_eq_true_eq,List.all_eq_true];refine ⟨⟨by omega,by rw [z0Z hc];omega⟩,fun x hx=>?_⟩;have:=hb.mem (z4c hx);omega
theorem z86 {l:List Int} {B:Int} {c m:Nat} {gap need:Int} (hb:UpB l B) (hB:B+30≤50000) (hc:c+m≤l.length) (hm:1≤m∧m≤4) (hg:0≤gap∧gap≤3) (hn:need≤30):UpB (z1H l c m gap need) (B+30):=by
 intro i hi;rw [z5n] at hi;have hbi:=hb i hi;unfold z1H
 split
 ·omega
 ·rename_i hl
  obtain ⟨hok,h30⟩:=z52 (fun j hj=>⟨(hb j hj).1,by have:=(hb j hj).2;omega⟩) hc hm hg hn (by omega:0 < z0h l c m gap need);have hsl:=z2x hok;rw [z0Z hc] at hsl;by_cases hin:c≤i∧i < c+m
  ·obtain ⟨j,rfl⟩:∃ j,i=c+j:=⟨i - c,by omega⟩;rw [z4d l c _ m (by omega) (by omega)];have h1:=z2H (t:=z0h l c m gap need) (l:=z0d l c m) j (by omega)
   have h2:(z0c (z0h l c m gap need) (z0d l c m)).getD j 0≤30:=by
    have hsum:=z5l hok (by rw [z0Z hc];omega)
    have hall:∀ x ∈ z0c (z0h l c m gap need) (z0d l c m),0≤x:=fun x hx=>by
     obtain ⟨k,hk,rfl⟩:=List.mem_iff_getElem.1 hx;have:=(z2H (t:=z0h l c m gap need) (l:=z0d l c m) k hk).1
     simpa [List.getD,hk] using this
    have hle:(z0c (z0h l c m gap need) (z0d l c m)).getD j 0≤(z0c (z0h l c m gap need) (z0d l c m)).sum:=by
     have hmem:(z0c (z0h l c m gap need) (z0d l c m)).getD j 0 ∈ z0c (z0h l c m gap need) (z0d l c m):=by
      have e:(z0c (z0h l c m gap need) (z0d l c m)).getD j 0=(z0c (z0h l c m gap need) (z0d l c m))[j]'(by omega):=(by simp [List.getD,show j < (z0c (z0h l c m gap need) (z0d l c m)).length by omega]);rw [e];exact List.getElem_mem _
     exact z4u hall hmem
    omega
   omega
  ·rw [z2S l c _ m (fun j hj e=>hin ⟨by omega,by omega⟩)];omega
def zbf (rs:List R) (k:Nat):Nat:=((rs.take k).map (fun x=>x.cells.length)).sum
def sd (ps:List (Int × Int)) (q:Int):Int × Int:=if inB q 0 (ps.length - 1)=true then ps.getD q.toNat (0,0) else (0,0)
theorem z7C {ps:List (Int × Int)} {q:Int} (h:inB q 0 (ps.length - 1)=false):sd ps q=(0,0):=by unfold sd;rw [if_neg (by rw [h];simp)]
theorem z8y {ps:List (Int × Int)} {k:Nat} (h:k < ps.length):sd ps k=ps.getD k (0,0):=by unfold sd;rw [if_pos (z1v (by omega) (by omega)),Int.toNat_natCast]
def sdT (t:T) (q:Int):Int × Int:=if zq t=true then sd t.cols q else (0,0)
def zb0 (arr:Array Value) (o:Nat) (x:C):Prop :=
 arr[o]?=some (.string x.s)∧arr[o+1]?=some (.int .i64 x.c)∧arr[o+2]?=some (.int .i64 x.r)∧arr[o+3]?=some (.int .i64 x.a1)∧arr[o+4]?=some (.int .i64 x.b1)∧arr[o+5]?=some (.int .i64 x.a2) ∧
 arr[o+6]?=some (.int .i64 x.b2)∧arr[o+7]?=some (.int .i64 x.a3)∧arr[o+8]?=some (.int .i64 x.b3)∧arr[o+9]?=some (.int .i64 x.a4)∧arr[o+10]?=some (.int .i64 x.b4)
def zb7 (arr:Array Value) (o:Nat) (x:C):Array Value :=
 ((((((((((arr.setIfInBounds o (.string x.s)).setIfInBounds (o+1) (.int .i64 x.c)).setIfInBounds (o+2) (.int .i64 x.r)).setIfInBounds (o+3) (.int .i64 x.a1)).setIfInBounds (o+4) (.int .i64 x.b1)).setIfInBounds (o+5) (.int .i64 x.a2)).setIfInBounds (o+6) (.int .i64 x.b2)).setIfInBounds (o+7) (.int .i64 x.a3)).setIfInBounds (o+8) (.int .i64 x.b3)).setIfInBounds (o+9) (.int .i64 x.a4)).setIfInBounds (o+10) (.int .i64 x.b4)
def zbh (n:Nat):Array Value:=madeCells (Value.agg #[.string ⟨#[]⟩,.int .i64 0,.int .i64 0,.int .i64 0,.int .i64 0,.int .i64 0,.int .i64 0,.int .i64 0,.int .i64 0,.int .i64 0,.int .i64 0]).cells (n * 11)
def zbi (n:Nat):Array Value:=madeCells (Value.agg #[.slice none 0 0,.bool false]).cells (n * 2)
def z6r (w:World) (z:Nat) (arr:Array Value) (rs:List R) (k:Nat):Prop :=
 ∀ i,i < k→∃ u,arr[i * 2]?=some u∧arr[i * 2+1]?=some (.bool (rs.getD i dR).whole)∧z0t w z u (rs.getD i dR).cells
theorem z6r.next {w w':World} {z:Nat} {arr:Array Value} {rs:List R} {k:Nat} (h:z6r w z arr rs k) (hs:arr.size=rs.length * 2) (hk:k < rs.length) (hw:ze z w w') {u:Value} (hu:z0t w' z u (rs.getD k dR).cells) :
  z6r w' z ((arr.setIfInBounds (k * 2) u).setIfInBounds (k * 2+1) (.bool (rs.getD k dR).whole)) rs (k+1):=by
 obtain ⟨h1,h2,h3⟩:=z39 hs hk u (.bool (rs.getD k dR).whole);intro i hi
 rcases Nat.lt_or_eq_of_le (Nat.lt_succ_iff.1 hi) with hlt | rfl
 ·obtain ⟨v,e1,e2,e3⟩:=h i hlt;exact ⟨v,(h1 _ (by omega)).trans e1,(h1 _ (by omega)).trans e2,e3.since hw⟩
 ·exact ⟨u,h2,h3,hu⟩
def zbj (n:Nat):Array Value:=madeCells (Value.agg #[.int .i64 0,.int .i64 0]).cells (n * 2)
def z6s (arr:Array Value) (ps:List (Int × Int)) (k:Nat):Prop:=∀ i,i < k→arr[i * 2]?=some (.int .i64 (ps.getD i (0,0)).1)∧arr[i * 2+1]?=some (.int .i64 (ps.getD i (0,0)).2)
theorem z6s.next {arr:Array Value} {ps:List (Int × Int)} {k:Nat} (h:z6s arr ps k) (hs:arr.size=ps.length * 2) (hk:k < ps.length) :
  z6s ((arr.setIfInBounds (k * 2) (.int .i64 (ps.getD k (0,0)).1)).setIfInBounds (k * 2+1) (.int .i64 (ps.getD k (0,0)).2)) ps (k+1):=by
 obtain ⟨h1,h2,h3⟩:=z39 hs hk (.int .i64 (ps.getD k (0,0)).1) (.int .i64 (ps.getD k (0,0)).2);intro i hi
 rcases Nat.lt_or_eq_of_le (Nat.lt_succ_iff.1 hi) with hlt | rfl
 ·exact ⟨(h1 _ (by omega)).trans (h i hlt).1,(h1 _ (by omega)).trans (h i hlt).2⟩
 ·exact ⟨h2,h3⟩
theorem z0I {w w':World} {base:Nat} {e:TypeId} {sz:Nat} {v:Value} {m:Nat} {xs:List Value} (h:w.ownsRow base e sz v m xs) (k:ze base w w'):w'.ownsRow base e sz v m xs :=
 ⟨h.1,h.2.elim Or.inl (fun ⟨g,cap,cur,hv,hg,hc,q⟩=>Or.inr ⟨g,cap,cur,hv,hg,(k.block g hg (bL hc)).trans hc,q⟩)⟩
theorem zr.since {w w':World} {base:Nat} {v:Value} {ur:List (Value × R)} (h:zr w base v ur) (k:ze base w w'):zr w' base v ur:=⟨z0I h.own k,fun p hp=>z0I (h.cells p hp) k,h.apart⟩
def z0k (w:World) (base:Nat) (vc vr:Value) (t:T):Prop:=∃ ur:List (Value × R),ur.map (·.2)=t.rows∧zw w base vc t.cols∧zr w base vr ur
theorem z0k.since {w w':World} {base:Nat} {vc vr:Value} {t:T} (h:z0k w base vc vr t) (k:ze base w w'):z0k w' base vc vr t:=by
 obtain ⟨ur,e,a,b⟩:=h;exact ⟨ur,e,z0I a k,b.since k⟩
theorem z0k.base {w:World} {base base':Nat} {vc vr:Value} {t:T} (h:z0k w base vc vr t) (hb:base'≤base):z0k w base' vc vr t:=by
 obtain ⟨ur,e,a,b⟩:=h;exact ⟨ur,e,z0v a hb,b.base hb⟩
theorem z6t {α:Type} (f:α→List Value) (sz:Nat) (hf:∀ x,(f x).length=sz) (l:List α) (arr:Array Value) (hs:arr.size=l.length * sz) (h:∀ i,(hi:i < l.length)→∀ j,j < sz→arr[i * sz+j]?=(f l[i])[j]?):arr.toList.take (l.length * sz)=l.flatMap f:=by
 rw [List.take_of_length_le (by rw [Array.length_toList,hs];exact Nat.le_refl _)];apply List.ext_getElem?;intro k;by_cases hk:k < l.length * sz
 ·have hz:0 < sz:=by
   rcases Nat.eq_zero_or_pos sz with h0 | h0
   ·rw [h0] at hk;omega
   ·exact h0
  have h1:k / sz < l.length:=(Nat.div_lt_iff_lt_mul hz).2 hk;have h2:k % sz < sz:=Nat.mod_lt _ hz;have e:k=k / sz * sz+k % sz:=(by rw [Nat.mul_comm];exact (Nat.div_add_mod k sz).symm);have a:=h (k / sz) h1 (k % sz) h2;have b:=z0p f sz hf l (k / sz) h1 (k % sz) h2;rw [← e] at a b;rw [Array.getElem?_toList,a,b]
 ·rw [List.getElem?_eq_none (by rw [Array.length_toList,hs];omega),List.getElem?_eq_none (by rw [z0y f sz hf];omega)]
def z24 (w:World) (z:Nat) (arr:Array Value) (rs:List R) (k:Nat):Prop :=
 ∃ us:List Value,us.length=k∧(∀ i,(hi:i < us.length)→arr[i * 2]?=some us[i]∧arr[i * 2+1]?=some (.bool (rs.getD i dR).whole)∧zL w z us[i] (rs.getD i dR).cells)∧us.Pairwise fun p q=>p.ownBlock=none∨p.ownBlock ≠ q.ownBlock
theorem z24.zero (w:World) (z:Nat) (arr:Array Value) (rs:List R):z24 w z arr rs 0:=⟨[],rfl,fun _ hi=>absurd hi (Nat.not_lt_zero _),.nil⟩
theorem z24.next {w w':World} {z:Nat} {arr:Array Value} {rs:List R} {k:Nat} (h:z24 w z arr rs k) (hs:arr.size=rs.length * 2) (hk:k < rs.length) (hz:z≤w.heap.size) (hw:ze z w w') {u:Value} (hu:zL w' w.heap.size u (rs.getD k dR).cells) :
  z24 w' z ((arr.setIfInBounds (k * 2) u).setIfInBounds (k * 2+1) (.bool (rs.getD k dR).whole)) rs (k+1):=by
 obtain ⟨h1,h2,h3⟩:=z39 hs hk u (.bool (rs.getD k dR).whole);obtain ⟨us,hl,hg,hp⟩:=h;refine ⟨us ++ [u],by simp [hl],fun i hi=>?_,?_⟩
 ·rw [List.length_append,List.length_singleton,hl] at hi
  rcases Nat.lt_or_eq_of_le (Nat.lt_succ_iff.1 hi) with hlt | rfl
  ·obtain ⟨e1,e2,e3⟩:=hg i (by omega);rw [List.getElem_append_left (by omega)];exact ⟨(h1 _ (by omega)).trans e1,(h1 _ (by omega)).trans e2,z0I e3 hw⟩
  ·have e:(us ++ [u])[i]'(by simp [hl])=u:=by
    rw [List.getElem_append_right (by omega)];simp
   rw [e];exact ⟨h2,h3,z0v hu hz⟩
 ·rw [List.pairwise_append];refine ⟨hp,List.pairwise_singleton _ _,fun p hpm q hq=>?_⟩;rw [List.mem_singleton] at hq;subst hq;obtain ⟨i,hi,rfl⟩:=List.mem_iff_getElem.1 hpm;obtain ⟨_,_,e3⟩:=hg i hi
  cases hb:us[i].ownBlock with
  | none=>exact .inl rfl
  | some b =>
   refine .inr (fun he=>?_);have l1:=zX e3 hb;have l2:=zX hu he.symm;omega
theorem z24.all {w:World} {z:Nat} {arr:Array Value} {rs:List R} (h:z24 w (z+1) arr rs rs.length) (hs:arr.size=rs.length * 2) (hg:w.heap[z]?=some (.cells arr 33)) (hm:rs.length≤maxLen) :
  ∃ ur:List (Value × R),ur.map (·.2)=rs∧zr w z (.slice (some ⟨z,0,none⟩) rs.length rs.length) ur:=by
 obtain ⟨us,hl,hgt,hp⟩:=h;have hzl:(us.zip rs).length=rs.length:=(by rw [List.length_zip,hl,Nat.min_self]);refine ⟨us.zip rs,List.map_snd_zip (by omega),⟨?_,fun p hpm=>?_,?_⟩⟩
 ·refine ⟨z0y zt 2 (fun _=>rfl) _,.inr ⟨z,rs.length,arr,by rw [hzl],Nat.le_refl _,hg,by rw [hzl];exact Nat.le_refl _,hm,hs,?_⟩⟩;refine z6t zt 2 (fun _=>rfl) (us.zip rs) arr (by rw [hs,hzl]) (fun i hi j hj=>?_);rw [hzl] at hi;obtain ⟨e1,e2,_⟩:=hgt i (by omega);rw [zx dR hi] at e2;rw [List.getElem_zip]
  match j,hj with
  | 0,_=>exact e1
  | 1,_=>exact e2
 ·obtain ⟨i,hi,rfl⟩:=List.mem_iff_getElem.1 hpm;rw [hzl] at hi;obtain ⟨_,_,e3⟩:=hgt i (by omega);rw [zx dR hi] at e3;rw [List.getElem_zip];exact z0v e3 (Nat.le_succ _)
 ·rw [List.pairwise_iff_getElem] at hp ⊢;intro i j hi hj hij;rw [List.getElem_zip,List.getElem_zip];exact hp i j (by omega) (by omega) hij
def zan (n:Nat) (out:ByteArray):ByteArray:=if n=0 then out else zan (n / 10) (⟨#[48+UInt8.ofNat (n % 10)]⟩ ++ out)
termination_by n
decreasing_by omega
def mt (k:Nat):ByteArray:=⟨#[109]⟩ ++ zan k ⟨#[]⟩
def mkC (k:Nat):C:=⟨mt k,(k:Int)+1,(k:Int)+2,(k:Int)+3,(k:Int)+4,(k:Int)+5,(k:Int)+6,(k:Int)+7,(k:Int)+8,(k:Int)+9,(k:Int)+10⟩
def zaR (n k:Nat):List C:=(List.range n).map fun i=>mkC (k+11 * i)
theorem z2U {α:Type} (f:α→List Value) (sz:Nat) (hf:∀ x,(f x).length=sz) (l:List α) (arr:Array Value) (hs:l.length * sz≤arr.size) (h:∀ i,(hi:i < l.length)→∀ j,j < sz→arr[i * sz+j]?=(f l[i])[j]?):arr.toList.take (l.length * sz)=l.flatMap f:=by
 have e:=z6t f sz hf l (arr.extract 0 (l.length * sz)) (by rw [Array.size_extract];omega) (fun i hi j hj=>by
  have hlt:i * sz+j < l.length * sz:=by
   have:(i+1) * sz≤l.length * sz:=Nat.mul_le_mul_right sz hi;rw [Nat.succ_mul] at this;omega
  rw [Array.getElem?_extract,if_pos (by omega),Nat.zero_add];exact h i hi j hj)
 rw [← e];simp [List.take_take]
theorem z7I (w:World) (r:Option Nat):w.grownBy w r:=⟨rfl,rfl,rfl,Nat.le_refl _,fun _ _ _=>rfl⟩
theorem z8B {a w:World} {g:Nat} (h:a.grownBy w (some g)) {p:Addr} (hp:p.block=g) (v:Value):a.grownBy (w.setCell p v) (some g) :=
 ⟨h.os,h.tape,h.output,by rw [z1F];exact h.size,fun k hk hr=>(Below.heap_setCell _ _ _ _ (fun e=>hr (by rw [e,hp]))).trans (h.block k hk hr)⟩
theorem Out.trans {B D:Nat} {a b c:World} (h:Out B D a b) (k:Out B D b c):Out B D a c :=
 ⟨h.below.trans k.below,fun i h1 h2=>(k.block i h1 (Nat.lt_of_lt_of_le h2 h.below.size)).trans (h.block i h1 h2)⟩
theorem Out.alloc {B D:Nat} {a w:World} (h:Out B D a w) (hB:B≤w.heap.size) (o:Obj):Out B D a (w.alloc o) :=
 ⟨h.below.alloc hB o,fun k h1 h2=>(Below.heap_alloc _ _ _ (Nat.lt_of_lt_of_le h2 h.below.size)).trans (h.block k h1 h2)⟩
def zaE (k:Nat):Int × Int:=((k:Int),(k:Int)+1)
def zb4 (n k:Nat):List (Int × Int):=(List.range n).map fun i=>zaE (k+2 * i)
def z59 (arr:Array Value) (f:Nat→Int × Int) (k:Nat):Prop:=∀ i,i < k→arr[i * 2]?=some (.int .i64 (f i).1)∧arr[i * 2+1]?=some (.int .i64 (f i).2)
theorem z59.next {arr:Array Value} {f:Nat→Int × Int} {k n:Nat} (h:z59 arr f k) (hs:arr.size=n * 2) (hk:k < n) :
  z59 ((arr.setIfInBounds (k * 2) (.int .i64 (f k).1)).setIfInBounds (k * 2+1) (.int .i64 (f k).2)) f (k+1):=by
 obtain ⟨h1,h2,h3⟩:=z39 hs hk (.int .i64 (f k).1) (.int .i64 (f k).2);intro i hi
 rcases Nat.lt_or_eq_of_le (Nat.lt_succ_iff.1 hi) with hlt | rfl
 ·exact ⟨(h1 _ (by omega)).trans (h i hlt).1,(h1 _ (by omega)).trans (h i hlt).2⟩
 ·exact ⟨h2,h3⟩
def kAt (rs:List R) (k:Nat):Nat→Nat
 | 0=>k
 | i+1=>kAt rs k i+11 * (rs.getD i dR).cells.length+1
def mkR (k:Nat) (r:R):R:=⟨zaR r.cells.length k,decide ((k+11 * r.cells.length) % 3=0)⟩
def dU:Value × R:=(.slice none 0 0,dR)
def mkU (ur:List (Value × R)) (k:Nat):Nat→List (Value × R)
 | 0=>ur
 | i+1=>(mkU ur k i).set i ((ur.getD i dU).1,mkR (kAt (ur.map (·.2)) k i) (ur.getD i dU).2)
theorem zr.mark {w w1:World} {base:Nat} {v:Value} {ur:List (Value × R)} (h:zr w base v ur) {i g cap:Nat} (hv:v=.slice (some ⟨g,0,none⟩) ur.length cap) {p:Value × R} (hi:ur[i]?=some p) {r:R} (hc:zL w1 base p.1 r.cells) (k:w.grownBy w1 p.1.ownBlock) :
  zr (w1.setCell ⟨g,i * 2+1,none⟩ (.bool r.whole)) base v (ur.set i (p.1,r)):=by
 have hil:i < ur.length:=(List.getElem?_eq_some_iff.1 hi).1;have hpm:p ∈ ur:=List.mem_of_getElem? hi;have hne:v.ownBlock=none∨v.ownBlock ≠ p.1.ownBlock:=z0L h.own (h.cells p hpm) (by decide);have hvg:v.ownBlock=some g:=(by rw [hv];rfl);have K1:Off 0 none p.1.ownBlock w w1:=Off.grown k;have h1:=zJ h.own K1 (Nat.zero_le _) (.inr (by rw [hvg];simp)) hne;have hS:Off 0 (some g) none w1 (w1.setCell ⟨g,i * 2+1,none⟩ (.bool r.whole)):=Off.set w1 ⟨g,i * 2+1,none⟩ rfl _
 have hcw:zL (w1.setCell ⟨g,i * 2+1,none⟩ (.bool r.whole)) base p.1 r.cells:=by
  refine zJ hc hS (Nat.zero_le _) ?_ ?_
  ·rcases z0L hc h1 (by decide) with e | e
   ·exact .inl e
   ·exact .inr (by rw [← hvg];exact e)
  ·rcases hb:p.1.ownBlock with _ | b
   ·exact .inl rfl
   ·exact .inr (by simp)
 refine ⟨?_,fun q hq=>?_,?_⟩
 ·rcases h1.2 with ⟨e,_⟩ | ⟨g',cap',cur,e,hg',hcur,a1,a2,a3,a4⟩
  ·rw [hv] at e;simp at e
  ·rw [hv] at e;simp only [Value.slice.injEq,Option.some.injEq,Addr.mk.injEq,and_true,true_and] at e;obtain ⟨rfl,rfl⟩:=e;refine ⟨by rw [z0y zt 2 (fun _=>rfl)],.inr ⟨g,cap,cur.setIfInBounds (i * 2+1) (.bool r.whole),by rw [List.length_set];exact hv,hg',zy hcur _,by rw [List.length_set];exact a1,a2,by rw [Array.size_setIfInBounds];exact a3,?_⟩⟩;refine z2U zt 2 (fun _=>rfl) (ur.set i (p.1,r)) (cur.setIfInBounds (i * 2+1) (.bool r.whole)) (by rw [List.length_set,Array.size_setIfInBounds,a3];omega) (fun j hj0 m hm=>?_);have hj:j < ur.length:=(by rw [List.length_set] at hj0;exact hj0)
   have hold:cur[j * 2+m]?=(zt ur[j])[m]?:=by
    have e:=z0p zt 2 (fun _=>rfl) ur j hj m hm;rw [← a4,List.getElem?_take_of_lt (by omega),Array.getElem?_toList] at e;exact e
   by_cases hji:j=i
   ·subst hji;have ep:ur[j]=p:=(by rw [List.getElem?_eq_getElem hj] at hi;exact Option.some.inj hi);rw [List.getElem_set_self]
    match m,hm with
    | 0,_ =>
     rw [Array.getElem?_setIfInBounds_ne (by omega),hold,ep];rfl
    | 1,_ =>
     rw [Array.getElem?_setIfInBounds_self_of_lt (by rw [a3];omega)];rfl
   ·rw [List.getElem_set_ne (by omega),Array.getElem?_setIfInBounds_ne (by omega)];exact hold
 ·obtain ⟨j,hj0,rfl⟩:=List.mem_iff_getElem.1 hq;have hj:j < ur.length:=(by rw [List.length_set] at hj0;exact hj0);by_cases hji:j=i
  ·subst hji;rw [List.getElem_set_self];exact hcw
  ·rw [List.getElem_set_ne (by omega)]
   have hap:ur[j].1.ownBlock=none∨ur[j].1.ownBlock ≠ p.1.ownBlock:=by
    have ep:ur[i]=p:=(by rw [List.getElem?_eq_getElem hil] at hi;exact Option.some.inj hi);have hp:=List.pairwise_iff_getElem.1 h.apart
    rcases Nat.lt_or_gt_of_ne hji with hl | hl
    ·rw [← ep];exact hp j i hj hil hl
    ·have:=hp i j hil hj hl;rw [ep] at this
     rcases hb:ur[j].1.ownBlock with _ | b
     ·exact .inl rfl
     ·refine .inr (fun e=>?_)
      rcases this with e1 | e1
      ·rw [e1] at e;cases e
      ·exact e1 (e.symm.trans hb.symm)
   have c1:=zJ (h.cells _ (List.getElem_mem hj)) K1 (Nat.zero_le _) (by rcases hb:ur[j].1.ownBlock with _ | b;exact .inl rfl;exact .inr (by simp)) hap;refine zJ c1 hS (Nat.zero_le _) ?_ (by rcases hb:ur[j].1.ownBlock with _ | b;exact .inl rfl;exact .inr (by simp))
   rcases z0L c1 h1 (by decide) with e | e
   ·exact .inl e
   ·exact .inr (by rw [← hvg];exact e)
 ·rw [List.pairwise_iff_getElem];have hp:=List.pairwise_iff_getElem.1 h.apart
  have hfst:∀ j,(hj:j < ur.length)→((ur.set i (p.1,r))[j]'(by rw [List.length_set];exact hj)).1=ur[j].1:=fun j hj=>by
   by_cases hji:j=i
   ·subst hji;rw [List.getElem_set_self,show ur[j]=p by rw [List.getElem?_eq_getElem hj] at hi;exact Option.some.inj hi]
   ·rw [List.getElem_set_ne (by omega)]
  intro a b ha0 hb0 hab;have ha:a < ur.length:=(by rw [List.length_set] at ha0;exact ha0);have hb:b < ur.length:=(by rw [List.length_set] at hb0;exact hb0);rw [hfst a ha,hfst b hb];exact hp a b ha hb hab
theorem z44 {ur:List (Value × R)} {i:Nat} {p:Value × R} (h:ur[i]?=some p):(ur.map (·.2)).getD i dR=p.2:=by simp [List.getD,h]
theorem z7j {w:World} {base:Nat} {v:Value} {ur:List (Value × R)} (h:zr w base v ur) {i:Nat} {p:Value × R} (hi:ur[i]?=some p):∃ g cap cur,v=.slice (some ⟨g,0,none⟩) ur.length cap∧ur.length≤cap∧cap≤maxLen∧g < w.heap.size∧base≤g∧w.heap[g]?=some (.cells cur 33)∧cur.size=cap * 2∧cur[i * 2]?=some p.1∧cur[i * 2+1]?=some (.bool p.2.whole):=by
 have hil:i < ur.length:=(List.getElem?_eq_some_iff.1 hi).1;have ep:ur[i]=p:=(by rw [List.getElem?_eq_getElem hil] at hi;exact Option.some.inj hi)
 rcases h.own.2 with ⟨_,e⟩ | ⟨g,cap,cur,e,hg,hc,a1,a2,a3,a4⟩
 ·omega
 ·have hold:∀ m,m < 2→cur[i * 2+m]?=(zt p)[m]?:=fun m hm=>by
   have e:=z0p zt 2 (fun _=>rfl) ur i hil m hm;rw [← a4,List.getElem?_take_of_lt (by omega),Array.getElem?_toList,ep] at e;exact e
  exact ⟨g,cap,cur,e,a1,a2,(bL hc),hg,hc,a3,hold 0 (by omega),hold 1 (by omega)⟩
def Kty (w w':World):Prop:=∀ (j:Nat) (cur:Array Value) (ty:TypeId),ty ≠ 33→ty ≠ 35→w.heap[j]?=some (.cells cur ty)→w'.heap[j]?=some (.cells cur ty)
theorem Kty.refl (w:World):Kty w w:=fun _ _ _ _ _ h=>h
theorem Kty.trans {a b c:World} (h:Kty a b) (k:Kty b c):Kty a c:=fun j cur ty h1 h2 h3=>k j cur ty h1 h2 (h j cur ty h1 h2 h3)
theorem Kty.cells {w w':World} {B m:Nat} {u:Value} {xs:List Value} (h:w.ownsRow B 35 11 u m xs) (k:w.grownBy w' u.ownBlock):Kty w w':=fun j cur ty _ h2 h3=>by
 refine (k.block j (bL h3) (fun e=>?_)).trans h3
 rcases zf h h3 (fun e=>h2 e.symm) with h4 | h4
 ·rw [h4] at e;cases e
 ·exact h4 e.symm
theorem Kty.set {w:World} {g o:Nat} {arr:Array Value} (h:w.heap[g]?=some (.cells arr 33)) (v:Value):Kty w (w.setCell ⟨g,o,none⟩ v):=fun j cur ty h1 _ h3=>by
 refine (Below.heap_setCell _ _ _ _ (fun e=>?_)).trans h3;subst e;rw [h3] at h;simp at h;exact h1 h.2
def z0V (w:World) (B D:Nat) (vc vr:Value) (cols:List (Int × Int)) (ur:List (Value × R)):Prop:=zw w B vc cols∧zr w B vr ur∧(∀ b,vc.ownBlock=some b→b < D)∧(∀ b,vr.ownBlock=some b→b < D)∧∀ p ∈ ur,∀ b,p.1.ownBlock=some b→b < D
theorem z0V.of {w:World} {B:Nat} {vc vr:Value} {cols:List (Int × Int)} {ur:List (Value × R)} (h1:zw w B vc cols) (h2:zr w B vr ur):z0V w B w.heap.size vc vr cols ur :=
 ⟨h1,h2,fun _ e=>(zX h1 e).2,fun _ e=>(zX h2.own e).2,fun p hp _ e=>(zX (h2.cells p hp) e).2⟩
theorem z0V.out {w w':World} {B D B' D':Nat} {vc vr:Value} {cols:List (Int × Int)} {ur:List (Value × R)} (h:z0V w B D vc vr cols ur) (k:Out B' D' w w') (hd:D≤B'∨D'≤B):z0V w' B D vc vr cols ur:=by
 obtain ⟨h1,h2,h3,h4,h5⟩:=h
 have key:∀ {e:TypeId} {sz:Nat} {v:Value} {m:Nat} {xs:List Value},w.ownsRow B e sz v m xs→(∀ b,v.ownBlock=some b→b < D)→w'.ownsRow B e sz v m xs:=fun h hv=>by
  refine ⟨h.1,h.2.elim Or.inl (fun ⟨g,cap,cur,e,hg,hc,q⟩=>Or.inr ⟨g,cap,cur,e,hg,?_,q⟩)⟩;have hgD:g < D:=hv g (by rw [e];rfl);refine Eq.trans ?_ hc
  rcases hd with hd | hd
  ·exact k.below.block g (by omega)
  ·exact k.block g (by omega) (bL hc)
 exact ⟨key h1 h3,⟨key h2.own h4,fun p hp=>key (h2.cells p hp) (h5 p hp),h2.apart⟩,h3,h4,h5⟩
theorem z0V.kept {w w':World} {B D:Nat} {vc vr:Value} {cols:List (Int × Int)} {ur:List (Value × R)} (h:z0V w B D vc vr cols ur) (k:Below w.heap.size w w'):z0V w' B D vc vr cols ur:=by
 have key:∀ {e:TypeId} {sz:Nat} {v:Value} {m:Nat} {xs:List Value},w.ownsRow B e sz v m xs→w'.ownsRow B e sz v m xs:=fun h =>
  ⟨h.1,h.2.elim Or.inl (fun ⟨g,cap,cur,e,hg,hc,q⟩=>Or.inr ⟨g,cap,cur,e,hg,(k.block g (bL hc)).trans hc,q⟩)⟩
 exact ⟨key h.1,⟨key h.2.1.own,fun p hp=>key (h.2.1.cells p hp),h.2.1.apart⟩,h.2.2⟩
def zbk (cols:List (Int × Int)) (ur:List (Value × R)):Nat:=kAt (ur.map (·.2)) (1+2 * cols.length) ur.length
def zT:T:=⟨[],0,0,[],0⟩
def z0H (t:T) (row:Int):Int:=if inB row 0 ((t.rows.length:Int) - 1)=true then ((t.rows.getD row.toNat dR).cells.length:Int) else -1
def z1R (t:T) (row at':Int):Bool:=inB at' 0 (z0H t row - 1)
theorem z4i {t:T} {row at':Int}:z1R t row at'=true ↔ ∃ r a:Nat,row=r∧at'=a∧r < t.rows.length∧a < (t.rows.getD r dR).cells.length:=by
 unfold z1R z0H;constructor
 ·intro h;simp only [inB,decide_eq_true_eq] at h
  split at h
  ·rename_i h1
   refine ⟨row.toNat,at'.toNat,by omega,by omega,by omega,by omega⟩
  ·omega
 ·rintro ⟨r,a,rfl,rfl,h1,h2⟩;rw [if_pos (z1v (by omega) (by omega)),Int.toNat_natCast];exact z1v (by omega) (by omega)
def z0W (t:T) (r:Nat) (cs:List C):T:=⟨t.cols,t.head,t.foot,t.rows.set r ⟨cs,(t.rows.getD r dR).whole⟩,t.gap⟩
theorem zL.put {w:World} {B:Nat} {g cap:Nat} {cs:List C} (h:zL w B (.slice (some ⟨g,0,none⟩) cs.length cap) cs) {a j:Nat} (ha:a < cs.length) (hj:j < 11) {x:C} {v:Value} (hx:zG x=(zG cs[a]).set j v) :
  zL (w.setCell ⟨g,a * 11+j,none⟩ v) B (.slice (some ⟨g,0,none⟩) cs.length cap) (cs.set a x):=by
 rcases h.2 with ⟨e,_⟩ | ⟨g',cap',cur,e,hg,hc,a1,a2,a3,a4⟩
 ·simp at e
 ·simp only [Value.slice.injEq,Option.some.injEq,Addr.mk.injEq,and_true,true_and] at e;obtain ⟨rfl,rfl⟩:=e;refine ⟨z0y zG 11 (fun _=>rfl) _,.inr ⟨g,cap,cur.setIfInBounds (a * 11+j) v,by rw [List.length_set],hg,zy hc _,by rw [List.length_set];exact a1,a2,by rw [Array.size_setIfInBounds];exact a3,?_⟩⟩;refine z2U zG 11 (fun _=>rfl) (cs.set a x) (cur.setIfInBounds (a * 11+j) v) (by rw [List.length_set,Array.size_setIfInBounds,a3];omega) (fun i hi0 m hm=>?_);have hi:i < cs.length:=(by rw [List.length_set] at hi0;exact hi0)
  have hold:cur[i * 11+m]?=(zG cs[i])[m]?:=by
   have e:=z0p zG 11 (fun _=>rfl) cs i hi m hm;rw [← a4,List.getElem?_take_of_lt (by omega),Array.getElem?_toList] at e;exact e
  by_cases hia:i=a
  ·subst hia;rw [List.getElem_set_self,hx];by_cases hmj:m=j
   ·subst hmj;rw [Array.getElem?_setIfInBounds_self_of_lt (by rw [a3];omega),List.getElem?_set_self (by show m < 11;exact hm)]
   ·rw [Array.getElem?_setIfInBounds_ne (by omega),List.getElem?_set_ne (by omega)];exact hold
  ·rw [List.getElem_set_ne (by omega),Array.getElem?_setIfInBounds_ne (by omega)];exact hold
theorem zr.upd {w w1:World} {base:Nat} {v:Value} {ur:List (Value × R)} (h:zr w base v ur) {i:Nat} {p:Value × R} (hi:ur[i]?=some p) {r:R} (hw:r.whole=p.2.whole) (hc:zL w1 base p.1 r.cells) (k:w.grownBy w1 p.1.ownBlock):zr w1 base v (ur.set i (p.1,r)):=by
 have hil:i < ur.length:=(List.getElem?_eq_some_iff.1 hi).1;have ep:ur[i]=p:=(by rw [List.getElem?_eq_getElem hil] at hi;exact Option.some.inj hi);have hpm:p ∈ ur:=List.mem_of_getElem? hi;have K1:Off 0 none p.1.ownBlock w w1:=Off.grown k;have hnn:∀ u:Value,u.ownBlock=none∨u.ownBlock ≠ none:=fun u=>by rcases hb:u.ownBlock with _ | b;exact .inl rfl;exact .inr (by simp)
 have hne:v.ownBlock=none∨v.ownBlock ≠ p.1.ownBlock:=z0L h.own (h.cells p hpm) (by decide);have h1:=zJ h.own K1 (Nat.zero_le _) (hnn v) hne
 have hfst:∀ j,(hj:j < ur.length)→((ur.set i (p.1,r))[j]'(by rw [List.length_set];exact hj)).1=ur[j].1:=fun j hj=>by
  by_cases hji:j=i
  ·subst hji;rw [List.getElem_set_self,ep]
  ·rw [List.getElem_set_ne (by omega)]
 have hfl:(ur.set i (p.1,r)).flatMap zt=ur.flatMap zt:=by
  apply List.ext_getElem?;intro q;have l1:=z0y zt 2 (fun _=>rfl) (ur.set i (p.1,r));have l2:=z0y zt 2 (fun _=>rfl) ur;rw [List.length_set] at l1;by_cases hq:q < ur.length * 2
  ·have e:q=q / 2 * 2+q % 2:=(by omega);have b1:=z0p zt 2 (fun _=>rfl) (ur.set i (p.1,r)) (q / 2) (by rw [List.length_set];omega) (q % 2) (by omega);have b2:=z0p zt 2 (fun _=>rfl) ur (q / 2) (by omega) (q % 2) (by omega);rw [← e] at b1 b2;rw [b1,b2];by_cases hji:q / 2=i
   ·subst hji;rw [List.getElem_set_self,ep,zt,zt,hw]
   ·rw [List.getElem_set_ne (by omega)]
  ·rw [List.getElem?_eq_none (by omega),List.getElem?_eq_none (by omega)]
 refine ⟨?_,fun q hq=>?_,?_⟩
 ·rw [hfl,List.length_set];exact h1
 ·obtain ⟨j,hj0,rfl⟩:=List.mem_iff_getElem.1 hq;have hj:j < ur.length:=(by rw [List.length_set] at hj0;exact hj0);by_cases hji:j=i
  ·subst hji;rw [List.getElem_set_self];exact hc
  ·rw [List.getElem_set_ne (by omega)]
   have hap:ur[j].1.ownBlock=none∨ur[j].1.ownBlock ≠ p.1.ownBlock:=by
    have hp:=List.pairwise_iff_getElem.1 h.apart
    rcases Nat.lt_or_gt_of_ne hji with hl | hl
    ·rw [← ep];exact hp j i hj hil hl
    ·have:=hp i j hil hj hl;rw [ep] at this
     rcases hb:ur[j].1.ownBlock with _ | b
     ·exact .inl rfl
     ·refine .inr (fun e=>?_)
      rcases this with e1 | e1
      ·rw [e1] at e;cases e
      ·exact e1 (e.symm.trans hb.symm)
   exact zJ (h.cells _ (List.getElem_mem hj)) K1 (Nat.zero_le _) (hnn _) hap
 ·rw [List.pairwise_iff_getElem];have hp:=List.pairwise_iff_getElem.1 h.apart;intro a b ha0 hb0 hab;have ha:a < ur.length:=(by rw [List.length_set] at ha0;exact ha0);have hb:b < ur.length:=(by rw [List.length_set] at hb0;exact hb0);rw [hfst a ha,hfst b hb];exact hp a b ha hb hab
theorem zL.atM {w:World} {base:Nat} {u:Value} {cs:List C} (h:zL w base u cs) (hs:∀ x ∈ cs,x.s.size≤maxLen):z0t w base u cs:=by
 rcases h.2 with ⟨rfl,hn⟩ | ⟨g,cap,cur,rfl,hg,hc,h1,h2,_⟩
 ·exact ⟨none,0,by rw [hn],by omega,by unfold maxLen;omega,fun i hi=>by omega⟩
 ·refine ⟨_,cap,rfl,h1,h2,fun i hi=>⟨g,0,rfl,(bL hc),hg,?_,?_⟩⟩
  ·have hx:∀ j,j < 11→w.cell? ⟨g,i * 11+j,none⟩=(zG cs[i])[j]?:=fun j hj=>by
    have e:=z0p zG 11 (fun _=>rfl) cs i hi j hj;rw [z1P h (u:=(zG cs[i])[j]'(by show j < 11;exact hj)) (by rw [e];simp)];simp
   rw [zx dC hi,Nat.zero_add];exact ⟨hx 0 (by omega),hx 1 (by omega),hx 2 (by omega),hx 3 (by omega),hx 4 (by omega),hx 5 (by omega),hx 6 (by omega),hx 7 (by omega),hx 8 (by omega),hx 9 (by omega),hx 10 (by omega)⟩
  ·rw [zx dC hi];exact hs _ (List.getElem_mem hi)
theorem zr.atM {w:World} {base:Nat} {v:Value} {ur:List (Value × R)} (h:zr w base v ur) (hs:∀ p ∈ ur,∀ x ∈ p.2.cells,x.s.size≤maxLen):zC w base v (ur.map (·.2)):=by
 have hl:(ur.map (·.2)).length=ur.length:=(by simp)
 rcases h.own.2 with ⟨rfl,hn⟩ | ⟨g,cap,cur,rfl,hg,hc,h1,h2,_⟩
 ·exact ⟨none,0,by rw [hl,hn],by rw [hl];omega,by unfold maxLen;omega,fun i hi=>by rw [hl] at hi;omega⟩
 ·refine ⟨_,cap,by rw [hl],by rw [hl];exact h1,h2,fun i hi=>⟨g,0,rfl,(bL hc),hg,?_⟩⟩;rw [hl] at hi
  have hx:∀ j,j < 2→w.cell? ⟨g,i * 2+j,none⟩=(zt ur[i])[j]?:=fun j hj=>by
   have e:=z0p zt 2 (fun _=>rfl) ur i hi j hj;rw [z1P h.own (u:=(zt ur[i])[j]'(by show j < 2;exact hj)) (by rw [e];simp)];simp
  have hm:=List.getElem_mem hi;dsimp only;rw [zx dR (by rw [hl];exact hi),Nat.zero_add,List.getElem_map];exact ⟨ur[i].1,hx 0 (by omega),hx 1 (by omega),(h.cells _ hm).atM (hs _ hm)⟩
def TxM (t:T):Prop:=∀ r ∈ t.rows,∀ x ∈ r.cells,x.s.size≤maxLen
theorem z0k.cols {w:World} {base:Nat} {vc vr:Value} {t:T} (h:z0k w base vc vr t):zS w base vc t.cols:=by
 obtain ⟨_,_,a,_⟩:=h;exact a.at
theorem z0k.rows {w:World} {base:Nat} {vc vr:Value} {t:T} (h:z0k w base vc vr t) (hs:TxM t):zC w base vr t.rows:=by
 obtain ⟨ur,e,_,b⟩:=h;rw [← e];exact b.atM (fun p hp=>hs p.2 (by rw [← e];exact List.mem_map_of_mem hp))
theorem z0k.kept {w w':World} {base:Nat} {vc vr:Value} {t:T} (h:z0k w base vc vr t) (k:Below w.heap.size w w'):z0k w' base vc vr t:=h.since (.of_below k)
theorem zao {w:World} {z:Nat} {v:Value} {rs:List R} (h:zC w z v rs):∀ r ∈ rs,∀ x ∈ r.cells,x.s.size≤maxLen:=by
 intro r hr x hx;obtain ⟨i,hi,rfl⟩:=List.mem_iff_getElem.1 hr;obtain ⟨_,_,_,_,_,_,_,u,_,_,hc⟩:=At.get h hi;rw [zx dR hi] at hc;obtain ⟨j,hj,rfl⟩:=List.mem_iff_getElem.1 hx;obtain ⟨_,_,_,_,_,_,_,_,hs⟩:=At.get hc hj;rw [zx dC hj] at hs;exact hs
theorem z2C {t:T} (h:zq t=true):t.cols.length≤8∧1≤t.rows.length∧t.rows.length≤8∧∀ i,i < t.rows.length→(t.rows.getD i dR).cells.length≤5:=by
 simp only [zq,z0Y,inB,Bool.and_eq_true,decide_eq_true_eq,List.all_eq_true] at h;obtain ⟨h1,_,_,⟨h4,_⟩,h5⟩:=h;refine ⟨h4,by omega,by omega,fun i hi=>?_⟩;have:=h5 _ (List.getElem_mem hi);rw [zx dR hi];simp only [z0z,Bool.and_eq_true,decide_eq_true_eq] at this;exact this.1
structure SmT (t:T):Prop where
 cols:t.cols.length≤8
 rows:t.rows.length≤9
 cells:∀ i,i < t.rows.length→(t.rows.getD i dR).cells.length≤6
theorem Out.kept {w W W':World} {n B D:Nat} (h:Below n w W) (k:Out B D W W') (hn:n≤B):Below n w W':=h.trans (k.below.mono hn)
theorem Out.box {W W':World} {B D b:Nat} {o:Obj} (h:W.heap[b]?=some o) (k:Out B D W W') (hd:b < B∨D≤b):W'.heap[b]?=some o:=by
 rcases hd with hd | hd
 ·exact (k.below.block b hd).trans h
 ·exact (k.block b hd (bL h)).trans h
theorem z0V.tbl {w:World} {B D:Nat} {vc vr:Value} {t:T} {ur:List (Value × R)} (h:z0V w B D vc vr t.cols ur) (hu:ur.map (·.2)=t.rows) (hs:TxM t):z2y w B (.agg #[vc,.int .i64 t.head,.int .i64 t.foot,vr,.int .i64 t.gap]) t :=
 ⟨vc,vr,rfl,h.1.at,by rw [← hu];exact h.2.1.atM (fun p hp=>hs p.2 (by rw [← hu];exact List.mem_map_of_mem hp))⟩
def txC (x:C) (s:ByteArray):C:=⟨s,x.c,x.r,x.a1,x.b1,x.a2,x.b2,x.a3,x.b3,x.a4,x.b4⟩
def z07 (t:T) (row at':Int) (s:ByteArray):T × Bool :=
 if zq t=true then (if (z1R t row at' && zD s)=true then (z0W t row.toNat ((t.rows.getD row.toNat dR).cells.set at'.toNat (txC ((t.rows.getD row.toNat dR).cells.getD at'.toNat dC) s)),true) else (t,false)) else (zT,false)
theorem z0V.put {w W9:World} {B D:Nat} {vc vr:Value} {cols:List (Int × Int)} {ur:List (Value × R)} (h:z0V w B D vc vr cols ur) (hb:Below w.heap.size w W9) {r a j:Nat} {p:Value × R} (hp:ur[r]?=some p) {g cap:Nat} (hpv:p.1=.slice (some ⟨g,0,none⟩) p.2.cells.length cap) (ha:a < p.2.cells.length) (hj:j < 11) {x:C} {v:Value} (hx:zG x=(zG p.2.cells[a]).set j v) :
  z0V (W9.setCell ⟨g,a * 11+j,none⟩ v) B D vc vr cols (ur.set r (p.1,⟨p.2.cells.set a x,p.2.whole⟩)):=by
 have h9:=h.kept hb;have hpm:p ∈ ur:=List.mem_of_getElem? hp;have hC:=h9.2.1.cells p hpm;rw [hpv] at hC;have hC2:=zL.put hC ha hj hx;have hG:W9.grownBy (W9.setCell ⟨g,a * 11+j,none⟩ v) p.1.ownBlock:=(by rw [hpv];exact z8B (z7I _ _) rfl _);have hR:=h9.2.1.upd hp (r:=⟨p.2.cells.set a x,p.2.whole⟩) rfl (by rw [hpv];simpa [zL] using hC2) hG;refine ⟨?_,hR,h.2.2.1,h.2.2.2.1,fun q hq b e=>?_⟩
 ·have hne:=z0L h9.1 (h9.2.1.cells p hpm) (by decide);exact zJ h9.1 (Off.grown (b1:=none) (n:=0) hG) (Nat.zero_le _) (by rcases hb:vc.ownBlock with _ | b;exact .inl rfl;exact .inr (by simp)) hne
 ·rcases List.mem_or_eq_of_mem_set hq with hm | rfl
  ·exact h.2.2.2.2 q hm b e
  ·exact h.2.2.2.2 p hpm b e
theorem z0V.other {W W':World} {B D n:Nat} {vc vr:Value} {cols:List (Int × Int)} {ur:List (Value × R)} (h:z0V W B D vc vr cols ur) (hn:D≤n) (hk:∀ k,k ≠ n→W'.heap[k]?=W.heap[k]?):z0V W' B D vc vr cols ur:=by
 obtain ⟨h1,h2,h3,h4,h5⟩:=h
 have key:∀ {e:TypeId} {sz:Nat} {v:Value} {m:Nat} {xs:List Value},W.ownsRow B e sz v m xs→(∀ b,v.ownBlock=some b→b < D)→W'.ownsRow B e sz v m xs:=fun h hv=>by
  refine ⟨h.1,h.2.elim Or.inl (fun ⟨g,cap,cur,e,hg,hc,q⟩=>Or.inr ⟨g,cap,cur,e,hg,?_,q⟩)⟩;have hgD:g < D:=hv g (by rw [e];rfl);exact (hk g (by omega)).trans hc
 exact ⟨key h1 h3,⟨key h2.own h4,fun p hp=>key (h2.cells p hp) (h5 p hp),h2.apart⟩,h3,h4,h5⟩
theorem z6R {w W W':World} (h:Below w.heap.size w W) {n:Nat} (hn:w.heap.size≤n) (hk:∀ k,k ≠ n→W'.heap[k]?=W.heap[k]?) (hs:W'.heap.size=W.heap.size) (ho:W'.os=W.os) (ht:W'.tape=W.tape) (hu:W'.output=W.output):Below w.heap.size w W' :=
 ⟨ho.trans h.os,ht.trans h.tape,hu.trans h.output,by rw [hs];exact h.size,fun k h1=>(hk k (by omega)).trans (h.block k h1)⟩
theorem z7k {w:World} {B:Nat} {vr:Value} {ur:List (Value × R)} (h:zr w B vr ur) {r:Nat} {p:Value × R} (hp:ur[r]?=some p) {a:Nat} (ha:a < p.2.cells.length):∃ g cap cur,p.1=.slice (some ⟨g,0,none⟩) p.2.cells.length cap∧w.heap[g]?=some (.cells cur 35)∧p.2.cells.length≤cap∧cap≤maxLen∧cur.size=cap * 11:=by
 rcases (h.cells p (List.mem_of_getElem? hp)).2 with ⟨_,e⟩ | ⟨g,cap,cur,e,hg,hc,a1,a2,a3,_⟩
 ·omega
 ·exact ⟨g,cap,cur,e,hc,a1,a2,a3⟩
theorem z45 (ur:List (Value × R)) (r:Nat) (q:Value × R):(ur.set r q).map (·.2)=(ur.map (·.2)).set r q.2:=by simp
theorem z2r {w:World} {B D:Nat} {vc vr:Value} {cols:List (Int × Int)} {ur:List (Value × R)} (h:z0V w B D vc vr cols ur) {t:T} (hc:t.cols=cols) (hr:ur.map (·.2)=t.rows):z0k w B vc vr t:=⟨ur,hr,by rw [hc];exact h.1,h.2.1⟩
end
end Go.Proofs.Ytggmjiddadjilam
