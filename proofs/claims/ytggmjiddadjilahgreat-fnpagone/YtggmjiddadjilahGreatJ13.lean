/-
  PROVED HERE: small facts on grids: whether a cell fits, whether cells meet, whether a grid is ok; cells meet just if they have a slot in common. Also: 5 more texts of the same proof.
-/
import Derived.Test.YtggmjiddadjilahGreatJ12
import Derived.Test.YtggmjiddadjilahGreatJ6
import Derived.Deep.RegionWith
set_option maxRecDepth 1000000
set_option maxHeartbeats 40000000
open Go.Proofs.Tryz
namespace Go.Proofs.YtggmjiddadjilahGreat
open Value (int)
open IntKind (i64)
section
open Go.RowKit
def z4c (R C:Int) (n:Nat):Bool:=zM R 1 8 && (zM C 1 94 && decide (n<=40))
def z18 (R C:Int) (x:GC):Bool:=zM x.row 0 (R - 1) && (zM x.rows 1 (R - x.row) && (zM x.col 0 (C - 1) && (zM x.cols 1 (C - x.col) && zM x.ins 0 4)))
def z1d (a b:GC):Bool:=decide (a.row < b.row+b.rows) && (decide (b.row < a.row+a.rows) && (decide (a.col < b.col+b.cols) && decide (b.col < a.col+a.cols)))
def z1k (xs:List GC) (x:GC):Bool:=xs.all λa=>!z1d a x
def z6j (R C:Int) (gs:List GC) (k:Nat):Bool:=(List.range k).all λi=>z18 R C (gs.getD i dG) && z1k (gs.take i) (gs.getD i dG)
def okB (g:G):Bool:=z4c g.rows g.cols g.cells.length && z6j g.rows g.cols g.cells g.cells.length
theorem zgc (R C:Int) (gs:List GC):z6j R C gs 0=true:=rfl
theorem zgd {R C:Int} {gs:List GC} {k:Nat} (h:z6j R C gs k=true) (h1:z18 R C (gs.getD k dG)=true) (h2:z1k (gs.take k) (gs.getD k dG)=true):z6j R C gs (k+1)=true:=by
 unfold z6j at h |-;rw [List.range_succ,List.all_append,h];simp only [List.all_cons,h1,h2,List.all_nil,Bool.and_self]
theorem zf2 {R C:Int} {gs:List GC} {k n:Nat} (hk:k < n) (h:(z18 R C (gs.getD k dG) && z1k (gs.take k) (gs.getD k dG))=false):z6j R C gs n=false:=by
 cases h2:z6j R C gs n with
 | false=>rfl
 | true=>rw [List.all_eq_true.1 h2 k (List.mem_range.2 hk)] at h;cases h
theorem z7o {g:G} (h:z4c g.rows g.cols g.cells.length=false):okB g=false:=by simp only [okB,h,Bool.false_and]
theorem zf3 {g:G} (h:z6j g.rows g.cols g.cells g.cells.length=false):okB g=false:=by simp only [okB,h,Bool.and_false]
theorem zbg {R C:Int} {n:Nat} (h:z4c R C n=true):1<=R/\R<=8/\1<=C/\C<=94/\n<=40:=by
 simp [z4c,zM] at h;omega
theorem z83 {R C:Int} {n:Nat} (h1:zM R 1 8=true) (h2:zM C 1 94=true) (h3:n<=40):z4c R C n=true:=by simp [z4c,h1,h2,h3]
def zk6 (R C:Int) (x:GC) (r c rs cs:Nat):Prop:=x.row=r/\x.col=c/\x.rows=rs/\x.cols=cs/\1<=rs/\1<=cs/\((r+rs:Nat):Int)<=R/\((c+cs:Nat):Int)<=C
theorem z4d {R C:Int} {x:GC} (h:z18 R C x=true):zk6 R C x x.row.toNat x.col.toNat x.rows.toNat x.cols.toNat:=by
 simp [z18,zM] at h;unfold zk6;omega
def z4v (x:GC):List Sl:=z1j x.row.toNat x.col.toNat x.cols.toNat x.rows.toNat
def z0L (gs:List GC):List (Nat × Nat):=(gs.flatMap z4v).map (·.1)
theorem zcw (gs:List GC) (x:GC):z0L (gs ++ [x])=z0L gs ++ (z4v x).map (·.1):=by simp [z0L]
theorem zf4 {r c rs cs:Nat} (hr:r+rs<=1000) (hc:c+cs<=1000) (y:Nat × Nat):y ∈ (z1j r c cs rs).map (·.1) ↔ (r<=y.1/\y.1 < r+rs)/\c<=y.2/\y.2 < c+cs:=by
 simp only [z1j,z3u,List.mem_map,List.mem_flatMap,List.mem_range];constructor
 ·rintro ⟨z,⟨i,hi,j,hj,rfl⟩,rfl⟩;rw [z9k (by omega)];dsimp only;omega
 ·rintro ⟨⟨h1,h2⟩,h3,h4⟩;refine ⟨z81 (r+(y.1 - r)) (c+(y.2 - c)),⟨y.1 - r,by omega,y.2 - c,by omega,rfl⟩,?_⟩;rw [z9k (by omega)];exact Prod.ext (by dsimp only;omega) (by dsimp only;omega)
theorem z5T {R C:Int} {x:GC} (h:z18 R C x=true) (hR:R<=8) (hC:C<=94) (y:Nat × Nat):y ∈ (z4v x).map (·.1) ↔ (x.row<=y.1/\(y.1:Int) < x.row+x.rows)/\x.col<=y.2/\(y.2:Int) < x.col+x.cols:=by
 obtain ⟨e1,e2,e3,e4,h1,h2,h3,h4⟩:=z4d h;unfold z4v;rw [zf4 (by omega) (by omega)];omega
theorem zbh {R C:Int} {a x:GC} (ha:z18 R C a=true) (hx:z18 R C x=true) (hR:R<=8) (hC:C<=94):z1d a x=true ↔ ∃ y,y ∈ (z4v a).map (·.1)/\y ∈ (z4v x).map (·.1):=by
 obtain ⟨a1,a2,a3,a4,a5,a6,a7,a8⟩:=z4d ha;obtain ⟨x1,x2,x3,x4,x5,x6,x7,x8⟩:=z4d hx;have e:z1d a x=true ↔ a.row < x.row+x.rows/\x.row < a.row+a.rows/\a.col < x.col+x.cols/\x.col < a.col+a.cols:=(by simp [z1d]);rw [e];constructor
 ·rintro ⟨h1,h2,h3,h4⟩;refine ⟨(max a.row.toNat x.row.toNat,max a.col.toNat x.col.toNat),(z5T ha hR hC _).2 ?_,(z5T hx hR hC _).2 ?_⟩
  ·dsimp only;omega
  ·dsimp only;omega
 ·rintro ⟨y,h1,h2⟩;have k1:=(z5T ha hR hC _).1 h1;have k2:=(z5T hx hR hC _).1 h2;omega
theorem zjh {R C:Int} {gs:List GC} {x:GC} (hg:∀ a ∈ gs,z18 R C a=true) (hx:z18 R C x=true) (hR:R<=8) (hC:C<=94):z6i (z0L gs) x.row.toNat x.col.toNat x.rows.toNat x.cols.toNat=z1k gs x:=by
 rw [Bool.eq_iff_iff];unfold z6i z1k;rw [List.all_eq_true,List.all_eq_true];constructor
 ·intro h a ha
  cases hm:z1d a x with
  | false=>rfl
  | true =>
   obtain ⟨y,h1,h2⟩:=(zbh (hg a ha) hx hR hC).1 hm;obtain ⟨z,hz,rfl⟩:=List.mem_map.1 h2;have:=of_decide_eq_true (h z hz);refine absurd ?_ this;obtain ⟨u,hu,e⟩:=List.mem_map.1 h1;exact List.mem_map.2 ⟨u,List.mem_flatMap.2 ⟨a,ha,hu⟩,e⟩
 ·intro h z hz;refine decide_eq_true (λhm=>?_);obtain ⟨u,hu,e⟩:=List.mem_map.1 hm;obtain ⟨a,ha,hua⟩:=List.mem_flatMap.1 hu;have:=h a ha;rw [(zbh (hg a ha) hx hR hC).2 ⟨z.1,List.mem_map.2 ⟨u,hua,e⟩,List.mem_map.2 ⟨z,hz,rfl⟩⟩] at this
  cases this
theorem zbi {R C:Int} {gs:List GC} {k:Nat} (hk:k<=gs.length) (h:z6j R C gs k=true):∀ a ∈ gs.take k,z18 R C a=true:=by
 intro a ha;obtain ⟨i,hi,rfl⟩:=List.mem_iff_getElem.1 ha;rw [List.length_take] at hi;have:=List.all_eq_true.1 h i (List.mem_range.2 (by omega));rw [Bool.and_eq_true] at this;have e:gs.getD i dG=(gs.take k)[i]:=(by simp [List.getD,show i < gs.length by omega]);rw [<-e];exact this.1
theorem zge (r c a:Nat):(z3u r c a).length=a:=by simp [z3u]
theorem zf5 (r c cs d:Nat):(z1j r c cs d).length=d * cs:=by
 induction d with
 | zero=>simp [z1j]
 | succ d ih=>rw [z6T,List.length_append,ih,zge,Nat.succ_mul]
theorem z9R {R C:Int} {x:GC} (h:z18 R C x=true) (hR:R<=8) (hC:C<=94):(z4v x).length<=752:=by
 obtain ⟨e1,e2,e3,e4,h1,h2,h3,h4⟩:=z4d h;unfold z4v;rw [zf5];have a1:x.rows.toNat<=8:=(by omega);have a2:x.cols.toNat<=94:=(by omega);exact Nat.mul_le_mul a1 a2
theorem z8X {R C:Int} (hR:R<=8) (hC:C<=94):∀ (gs:List GC),(∀ a ∈ gs,z18 R C a=true)->(z0L gs).length<=gs.length * 752
 | [],_=>by simp [z0L]
 | a :: t,h=>by
  have h1:=z9R (h a (by simp)) hR hC;have h2:=z8X hR hC t (λb hb=>h b (by simp [hb]));simp only [z0L,List.length_map,List.flatMap_cons,List.length_append,List.length_cons] at h2 |-;omega
end
section
theorem zkY (l:Int) (N:Nat):(((List.range N).countP (λc:Nat=>decide (l<=(c:Int)/\(c:Int) < l+7)):Nat):Int)<=max 0 (min 7 (N - l)):=by
 induction N with
 | zero=>simp;omega
 | succ N ih =>
  rw [List.range_succ,List.countP_append,List.countP_cons,List.countP_nil];by_cases h:l<=(N:Int)/\(N:Int) < l+7
  ·rw [if_pos (decide_eq_true h)];omega
  ·rw [if_neg (by simpa using h)];omega
theorem zgi {α:Type} (p q:α->Bool) (l:List α):l.countP (λx=>p x || q x)<=l.countP p+l.countP q:=by
 induction l with
 | nil=>simp
 | cons a t ih =>
  rw [List.countP_cons,List.countP_cons,List.countP_cons]
  cases p a <;> cases q a <;> simp <;> omega
theorem zcy (N:Nat):∀ ls:List Int,(List.range N).countP (λc:Nat=>ls.any λl=>decide (l<=(c:Int)/\(c:Int) < l+7))<=7 * ls.length
 | []=>by simp
 | l :: t=>by
  have h1:=zcy N t;have h2:=zkY l N;have h3:=zgi (λc:Nat=>decide (l<=(c:Int)/\(c:Int) < l+7)) (λc:Nat=>t.any λl=>decide (l<=(c:Int)/\(c:Int) < l+7)) (List.range N);simp only [List.any_cons,List.length_cons];omega
theorem zgj (ls:List Int):∃ c:Nat,c<=7 * ls.length/\∀ l ∈ ls,¬ (l<=(c:Int)/\(c:Int) < l+7):=by
 apply Classical.byContradiction;intro hn
 have hall:∀ c ∈ List.range (7 * ls.length+1),(ls.any λl=>decide (l<=(c:Int)/\(c:Int) < l+7))=true:=by
  intro c hc;rw [List.mem_range] at hc;apply Classical.byContradiction;intro h;refine hn ⟨c,by omega,λl hl h2=>h ?_⟩;exact List.any_eq_true.2 ⟨l,hl,decide_eq_true h2⟩
 have h1:=List.countP_eq_length.2 hall;have h2:=zcy (7 * ls.length+1) ls;rw [List.length_range] at h1;omega
def z1q (x:GC) (c:Int):GC:=⟨x.row,c,x.rows,x.cols,x.ins⟩
def z5l (a x:GC):Bool:=decide (a.row < x.row+x.rows) && decide (x.row < a.row+a.rows)
theorem zdU (gs:List GC) (x:GC) (hx:1<=x.cols/\x.cols<=4) (hg:∀ a ∈ gs,1<=a.cols/\a.cols<=4):∃ c:Nat,c<=7 * (gs.filter λa=>z5l a x).length/\z1k gs (z1q x c)=true:=by
 obtain ⟨c,h1,h2⟩:=zgj ((gs.filter λa=>z5l a x).map λa=>a.col - x.cols+1);rw [List.length_map] at h1;refine ⟨c,h1,List.all_eq_true.2 λa ha=>?_⟩
 cases hm:z1d a (z1q x c) with
 | false=>rfl
 | true =>
  exfalso
  unfold z1d z1q at hm;simp only [Bool.and_eq_true,decide_eq_true_eq] at hm;have hc:=hg a ha;refine h2 (a.col - x.cols+1) (List.mem_map.2 ⟨a,List.mem_filter.2 ⟨ha,?_⟩,rfl⟩) (by omega);simp only [z5l,Bool.and_eq_true,decide_eq_true_eq];omega
def z52 (N:Nat) (gs:List GC) (x:GC):Nat:=(List.range N).findIdx (λc:Nat=>z1k gs (z1q x c))
theorem zgk {N:Nat} {gs:List GC} {x:GC} {c:Nat} (hc:c < N) (h:z1k gs (z1q x c)=true):z52 N gs x<=c/\z1k gs (z1q x (z52 N gs x))=true/\∀ k,k < z52 N gs x->z1k gs (z1q x (k:Nat))=false:=by
 have hl:z52 N gs x < (List.range N).length:=List.findIdx_lt_length_of_exists ⟨c,List.mem_range.2 hc,h⟩
 have hno:∀ k,k < z52 N gs x->z1k gs (z1q x (k:Nat))=false:=by
  intro k hk;have:=List.not_of_lt_findIdx (p:=λc:Nat=>z1k gs (z1q x c)) (xs:=List.range N) hk
  simpa using this
 refine ⟨?_,?_,hno⟩
 ·apply Classical.byContradiction;intro hn;have:=hno c (by omega);rw [h] at this
  cases this
 ·have e:(List.range N)[z52 N gs x]'hl=z52 N gs x:=List.getElem_range hl;have h1:z1k gs (z1q x (((List.range N)[z52 N gs x]'hl:Nat):Int))=true:=List.findIdx_getElem (p:=λc:Nat=>z1k gs (z1q x c)) (xs:=List.range N) (w:=hl);rw [e] at h1;exact h1
def z5E (gs:List GC) (x:GC):Nat:=z52 1000 gs x
theorem zi1 {gs:List GC} {x:GC} {c:Nat} (hc:c < 1000) (h:z1k gs (z1q x c)=true):z5E gs x<=c/\z1k gs (z1q x (z5E gs x))=true/\∀ k,k < z5E gs x->z1k gs (z1q x (k:Nat))=false:=zgk hc h
def z03 (t:T) (r:Nat):Int:=if (r:Int) < t.head then t.head else if (t.rows.length:Int) - t.foot<=r then t.rows.length else t.rows.length - t.foot
def z4r (r i:Nat) (e:Int) (x:C):GC:=⟨r,0,min x.r (e - r),x.c,i⟩
def z1y (gs:List GC) (r i:Nat) (e:Int) (x:C):GC:=z1q (z4r r i e x) (z5E gs (z4r r i e x))
def z1X (e:Int) (r:Nat) (cs:List C) (gs:List GC):Nat->List GC
 | 0=>gs
 | i+1=>z1X e r cs gs i ++ [z1y (z1X e r cs gs i) r i e (cs.getD i dC)]
def z0a (t:T):Nat->List GC
 | 0=>[]
 | r+1=>z1X (z03 t r) r (t.rows.getD r dR).cells (z0a t r) (t.rows.getD r dR).cells.length
def z0x (m:Int) (gs:List GC):Int:=gs.foldl (λm a=>max m (a.col+a.cols)) m
theorem z5F (m:Int) (gs:List GC) (x:GC):z0x m (gs ++ [x])=max (z0x m gs) (x.col+x.cols):=by simp [z0x]
structure Low (t:T):Prop where
 rows:t.rows.length<=8
 span:∀ r ∈ t.rows,∀ x ∈ r.cells,(1<=x.c/\x.c<=4)/\1<=x.r/\x.r<=3
 few:∃ k,∀ i,(t.rows.getD i dR).cells.length<=if i=k then 5 else 4
 head:0<=t.head/\t.head<=t.rows.length
 foot:0<=t.foot/\t.head+t.foot<=t.rows.length
def z1z (n:Nat) (a:GC):Prop:=(0<=a.row/\1<=a.rows/\a.rows<=3/\a.row+a.rows<=n)/\(0<=a.col/\a.col<=84)/\(1<=a.cols/\a.cols<=4)/\0<=a.ins/\a.ins<=4
theorem z6k {t:T} (h:Low t) {r:Nat} (hr:r < t.rows.length):(r:Int) < z03 t r/\z03 t r<=t.rows.length:=by
 have h1:=h.head;have h2:=h.foot;unfold z03
 split
 ·omega
 ·split <;> omega
def z3f (gs:List GC) (q:Int):Nat:=gs.countP λa=>decide (a.row=q)
theorem z90 (gs:List GC) (x:GC) (q:Int):z3f (gs ++ [x]) q=z3f gs q+if x.row=q then 1 else 0:=by
 simp [z3f,List.countP_append,List.countP_cons]
theorem zcz (r:Nat) (x:GC) (hx:x.row=r):∀ gs:List GC,(∀ a ∈ gs,a.row<=r/\a.rows<=3)->(gs.filter λa=>z5l a x).length<=z3f gs r+(z3f gs ((r:Int) - 1)+z3f gs ((r:Int) - 2))
 | [],_=>by simp
 | a :: t,h=>by
  have ih:=zcz r x hx t (λb hb=>h b (by simp [hb]));have ha:=h a (by simp);unfold z3f at ih |-;rw [List.countP_cons,List.countP_cons,List.countP_cons,List.filter_cons]
  split
  ·rename_i hm
   simp only [z5l,Bool.and_eq_true,decide_eq_true_eq] at hm;rw [List.length_cons]
   rcases (by omega:a.row=r\/a.row=(r:Int) - 1\/a.row=(r:Int) - 2) with e | e | e
   ·simp [e];omega
   ·simp [e];omega
   ·simp [e];omega
  ·omega
structure z3Q (t:T) (gs:List GC) (r i:Nat):Prop where
 stands:∀ a ∈ gs,z1z t.rows.length a/\a.row<=r
 cnt:∀ q:Nat,z3f gs q=if q < r then (t.rows.getD q dR).cells.length else if q=r then i else 0
 neg:∀ q:Int,q < 0->z3f gs q=0
theorem z3Q.few {t:T} {gs:List GC} {r i:Nat} (h:z3Q t gs r i) (hl:Low t) (hi:i < (t.rows.getD r dR).cells.length) (x:GC) (hx:x.row=r):(gs.filter λa=>z5l a x).length<=12:=by
 have h1:=zcz r x hx gs (λa ha=>⟨(h.stands a ha).2,(h.stands a ha).1.1.2.2.1⟩);obtain ⟨k,hk⟩:=hl.few;have k0:=hk r;have c0:=h.cnt r;rw [if_neg (by omega),if_pos rfl] at c0
 have c1:z3f gs ((r:Int) - 1)<=if r - 1=k/\1<=r then 5 else 4:=by
  by_cases hr:1<=r
  ·have e:=h.cnt (r - 1);rw [if_pos (by omega),show ((r - 1:Nat):Int)=(r:Int) - 1 by omega] at e;have:=hk (r - 1)
   split at this <;> split <;> omega
  ·rw [h.neg _ (by omega)];omega
 have c2:z3f gs ((r:Int) - 2)<=if r - 2=k/\2<=r then 5 else 4:=by
  by_cases hr:2<=r
  ·have e:=h.cnt (r - 2);rw [if_pos (by omega),show ((r - 2:Nat):Int)=(r:Int) - 2 by omega] at e;have:=hk (r - 2)
   split at this <;> split <;> omega
  ·rw [h.neg _ (by omega)];omega
 split at k0 <;> split at c1 <;> split at c2 <;> omega
theorem z2q {α:Type} {l:List α} {i:Nat} {d:α} (h:i < l.length):l.getD i d ∈ l:=by
 have e:l.getD i d=l[i]:=(by simp [List.getD,h]);rw [e];exact List.getElem_mem _
theorem z3Q.next {t:T} {gs:List GC} {r i:Nat} (h:z3Q t gs r i) (hl:Low t) (hr:r < t.rows.length) (hi:i < (t.rows.getD r dR).cells.length) :
  (let x:=z4r r i (z03 t r) ((t.rows.getD r dR).cells.getD i dC)
   z5E gs x<=84/\z1k gs (z1q x (z5E gs x))=true/\(∀ k,k < z5E gs x->z1k gs (z1q x (k:Nat))=false)/\∀ k:Nat,k<=84->z1z t.rows.length (z1q x k)) /\
  z3Q t (gs ++ [z1y gs r i (z03 t r) ((t.rows.getD r dR).cells.getD i dC)]) r (i+1):=by
 have hm:=z2q (d:=dR) hr;have hx:=hl.span _ hm _ (z2q (d:=dC) hi);have he:=z6k hl hr
 have hi5:i<=4:=by
  obtain ⟨k,hk⟩:=hl.few;have:=hk r
  split at this <;> omega
 dsimp only;generalize hX:(t.rows.getD r dR).cells.getD i dC=x at hx;have hf:=h.few hl hi (z4r r i (z03 t r) x) rfl;obtain ⟨c,hc,hfree⟩:=zdU gs (z4r r i (z03 t r) x) hx.1 (λa ha=>(h.stands a ha).1.2.2.1);obtain ⟨f1,f2,f3⟩:=zi1 (by omega) hfree
 have hst:∀ k:Nat,k<=84->z1z t.rows.length (z1q (z4r r i (z03 t r) x) k):=by
  intro k hk;simp only [z1z,z1q,z4r];omega
 refine ⟨⟨by omega,f2,f3,hst⟩,?_,?_,?_⟩
 ·intro a ha
  rcases List.mem_append.1 ha with ha | ha
  ·exact h.stands a ha
  ·simp at ha;subst ha;exact ⟨hst _ (by omega),Int.le_refl _⟩
 ·intro q;have hrow:(z1y gs r i (z03 t r) x).row=(r:Int):=rfl;rw [z90,h.cnt q,hrow];by_cases h1:q < r
  ·rw [if_pos h1,if_pos h1,if_neg (by omega:¬ (r:Int)=q),Nat.add_zero]
  ·rw [if_neg h1,if_neg h1];by_cases h2:q=r
   ·subst h2;simp
   ·rw [if_neg h2,if_neg h2,if_neg (by omega)]
 ·intro q hq;have hrow:(z1y gs r i (z03 t r) x).row=(r:Int):=rfl;rw [z90,h.neg q hq,hrow,if_neg (by omega)]
theorem z3Q.zero (t:T):z3Q t [] 0 0:=⟨λa ha=>(by cases ha),λq=>(by simp [z3f]),λq _=>(by simp [z3f])⟩
theorem z3Q.rowEnd {t:T} {gs:List GC} {r:Nat} (h:z3Q t gs r (t.rows.getD r dR).cells.length):z3Q t gs (r+1) 0:=by
 refine ⟨λa ha=>⟨(h.stands a ha).1,by have:=(h.stands a ha).2;omega⟩,λq=>?_,h.neg⟩;rw [h.cnt q];by_cases h1:q < r
 ·rw [if_pos h1,if_pos (by omega)]
 ·rw [if_neg h1];by_cases h2:q=r
  ·subst h2;simp
  ·rw [if_neg h2,if_neg (by omega)]
   split <;> rfl
theorem z7p {t:T} (hl:Low t) {r:Nat} (hr:r < t.rows.length) (h:z3Q t (z0a t r) r 0):∀ i,i<=(t.rows.getD r dR).cells.length->z3Q t (z1X (z03 t r) r (t.rows.getD r dR).cells (z0a t r) i) r i
 | 0,_=>h
 | i+1,hi=>(z3Q.next (z7p hl hr h i (by omega)) hl hr (by omega)).2
theorem z6B {t:T} (hl:Low t):∀ r,r<=t.rows.length->z3Q t (z0a t r) r 0
 | 0,_=>z3Q.zero t
 | r+1,hr=>(z7p hl (by omega) (z6B hl r (by omega)) _ lR).rowEnd
theorem z85 (e:Int) (r:Nat) (cs:List C) (gs:List GC) (i:Nat):(z1X e r cs gs i).length=gs.length+i:=by
 induction i with
 | zero=>rfl
 | succ i ih=>simp only [z1X,List.length_append,ih,List.length_cons,List.length_nil];omega
theorem z7q {t:T} (hl:Low t) (r:Nat):(z0a t r).length<=5 * r:=by
 induction r with
 | zero=>simp [z0a]
 | succ r ih =>
  obtain ⟨k,hk⟩:=hl.few;have:=hk r;simp only [z0a,z85]
  split at this <;> omega
def zU (t:T):List GC:=z0a t t.rows.length
end
section
open Go.RowKit Go.BigFrame
def Sm (x:GC):Prop:=(0<=x.row/\x.row<=100000)/\(0<=x.col/\x.col<=100000)/\(0<=x.rows/\x.rows<=100000)/\(0<=x.cols/\x.cols<=100000)
theorem zet {R C:Int} {x:GC} (h:z18 R C x=true) (hR:R<=8) (hC:C<=94):Sm x:=by
 obtain ⟨e1,e2,e3,e4,h1,h2,h3,h4⟩:=z4d h;unfold Sm;omega
theorem z1K.take {w:World} {z:Nat} {ac:Option Addr} {cc:Nat} {gs:List GC} (h:z1K w z (.slice ac gs.length cc) gs) {k:Nat} (hk:k<=gs.length):z1K w z (.slice ac (gs.take k).length cc) (gs.take k):=by
 obtain ⟨a,cap,e,h1,h2,hx⟩:=h;simp only [Value.slice.injEq,true_and] at e;obtain ⟨rfl,rfl⟩:=e;have hl:(gs.take k).length=k:=(by rw [List.length_take];omega);refine ⟨_,_,rfl,by omega,h2,λi hi=>?_⟩;obtain ⟨b,off,ea,hb,hz,he⟩:=hx i (by omega);have e:(gs.take k).getD i dG=gs.getD i dG:=(by simp [List.getD,show i < k by omega]);exact ⟨b,off,ea,hb,hz,by dsimp only;rw [e];exact he⟩
def gcA (x:GC):Value:=.agg #[int i64 x.row,int i64 x.col,int i64 x.rows,int i64 x.cols,int i64 x.ins]
theorem zdV (a b:GC) (ha:Sm a) (hb:Sm b) (w:World) :
  Calls prog 114 #[.agg #[int i64 a.row,int i64 a.col,int i64 a.rows,int i64 a.cols,int i64 a.ins],.agg #[int i64 b.row,int i64 b.col,int i64 b.rows,int i64 b.cols,int i64 b.ins]] w λe w'=>e=.returned (.bool (z1d a b))/\Below w.heap.size w w':=by
 obtain ⟨a0,a1,a2,a3⟩:=ha;obtain ⟨b0,b1,b2,b3⟩:=hb;by_cases h1:a.row < b.row+b.rows
 ·by_cases h2:b.row < a.row+a.rows
  ·by_cases h3:a.col < b.col+b.cols
   ·have HE:Hid (z1d a b=decide (b.col < a.col+a.cols)):=by
     show z1d a b=_;simp only [z1d,h1,h2,h3,decide_true,Bool.true_and]
    go_enter func114,ntmps114;go_wp2;go_ret;exact ⟨zV HE.out.symm,ze (ze bR _) _⟩
   ·have HE:Hid (z1d a b=false):=by
     show z1d a b=_;simp only [z1d,h3,decide_false,Bool.false_and,Bool.and_false]
    go_enter func114,ntmps114;go_wp2;go_ret;exact ⟨zV HE.out.symm,ze (ze bR _) _⟩
  ·have HE:Hid (z1d a b=false):=by
    show z1d a b=_;simp only [z1d,h2,decide_false,Bool.false_and,Bool.and_false]
   go_enter func114,ntmps114;go_wp2;go_ret;exact ⟨zV HE.out.symm,ze (ze bR _) _⟩
 ·have HE:Hid (z1d a b=false):=by
   show z1d a b=_;simp only [z1d,h1,decide_false,Bool.false_and]
  go_enter func114,ntmps114;go_wp2;go_ret;exact ⟨zV HE.out.symm,ze (ze bR _) _⟩
theorem zgl {gs:List GC} {x:GC} {k:Nat} (hk:k < gs.length) (h:z1d (gs.getD k dG) x=true):z1k gs x=false:=by
 cases h2:z1k gs x with
 | false=>rfl
 | true =>
  have e:gs.getD k dG=gs[k]:=(by simp [List.getD,hk]);have:=List.all_eq_true.1 h2 gs[k] (List.getElem_mem hk);rw [<-e,h] at this
  cases this
theorem zgm {gs:List GC} {x:GC} (h:∀ j,j < gs.length->z1d (gs.getD j dG) x=false):z1k gs x=true:=by
 refine List.all_eq_true.2 (λa ha=>?_);obtain ⟨i,hi,rfl⟩:=List.mem_iff_getElem.1 ha;have:=h i hi;have e:gs.getD i dG=gs[i]:=(by simp [List.getD,hi]);rw [e] at this;rw [this];rfl
theorem z9V (ac:Option Addr) (cc:Nat) (gs:List GC) (hgs:∀ a ∈ gs,Sm a) (x:GC) (hxs:Sm x) (w:World) {z:Nat} (h:z1K w z (.slice ac gs.length cc) gs) :
  Calls prog 84 #[.slice ac gs.length cc,.agg #[int i64 x.row,int i64 x.col,int i64 x.rows,int i64 x.cols,int i64 x.ins]] w λe w'=>e=.returned (.bool (z1k gs x))/\Below w.heap.size w w':=by
 obtain ⟨_,_,_,hlen⟩:=At.form h;unfold maxLen at hlen;have K0:=O (ze (Below.refl w.heap.size w) (.cells #[int i64 x.row,int i64 x.col,int i64 x.rows,int i64 x.cols,int i64 x.ins] 51));have H:=O h;have HG:=O hgs;have HXS:=O hxs;have hmx:prog.follows .mixedOrders=true:=(by kernel_rfl);clear h hgs hxs;go_enter func84,ntmps84;go_wp2_with fail
 go_loopw [5] (λi W=>∃ k:Nat,k<=gs.length/\i=int i64 k/\Hid (∀ j,j < k->z1d (gs.getD j dG) x=false)/\Hid (Below w.heap.size w W)/\Hid (W.heap[w.heap.size]?=some (.cells #[int i64 x.row,int i64 x.col,int i64 x.rows,int i64 x.cols,int i64 x.ins] 51))) (λi _=>gs.length - (intOf i).toNat)
 case atStart=>exact ⟨0,nZ,rfl,λj hj=>absurd hj (Nat.not_lt_zero _),K0.out,zj _ _⟩
 case round =>
  obtain ⟨k,hk,rfl,HA,HB,HX⟩:=hrel;have hz:w.heap.size < wr.heap.size:=(bL HX.out);by_cases hlt:k < gs.length
  ·have hlt':(k:Int) < (gs.length:Int):=(by omega);have h0':(0:Int)<=(k:Int):=(by omega);obtain ⟨q,off,cap',e',hc1,hc2,hbl,hx,hs⟩:=At.get (H.out.kept HB.out) hlt;simp only [Value.slice.injEq,true_and] at e';obtain ⟨rfl,rfl⟩:=e';have HH:Hid (z1d (gs.getD k dG) x=true->z1k gs x=false):=λhp=>zgl hlt hp
   have HN:Hid (z1d (gs.getD k dG) x=false->∀ j,j < k+1->z1d (gs.getD j dG) x=false):=λhp j hj=>by
    rcases Nat.lt_or_eq_of_le (Nat.lt_succ_iff.1 hj) with h1 | rfl
    ·exact HA.out j h1
    ·exact hp
   have HS:Sm (gs.getD k dG):=by
    have e:gs.getD k dG=gs[k]:=(by simp [List.getD,hlt]);rw [e];exact HG.out _ (List.getElem_mem hlt)
   have HL:=O (zdV (gs.getD k dG) x HS HXS.out);clear HS hs;generalize gs.getD k dG=y at hx HH HN HL;obtain ⟨x0,x1,x2,x3,x4⟩:=hx;have y0:=zm (a:=⟨q,off+k * 5,none⟩) hbl x0;have y1:=zm (a:=⟨q,off+k * 5+1,none⟩) hbl x1;have y2:=zm (a:=⟨q,off+k * 5+2,none⟩) hbl x2;have y3:=zm (a:=⟨q,off+k * 5+3,none⟩) hbl x3;have y4:=zm (a:=⟨q,off+k * 5+4,none⟩) hbl x4;have b0:=zm (a:=⟨w.heap.size,0,none⟩) (v:=int i64 x.row) hz (zf HX.out);have b1:=zm (a:=⟨w.heap.size,1,none⟩) (v:=int i64 x.col) hz (zf HX.out);have b2:=zm (a:=⟨w.heap.size,2,none⟩) (v:=int i64 x.rows) hz (zf HX.out);have b3:=zm (a:=⟨w.heap.size,3,none⟩) (v:=int i64 x.cols) hz (zf HX.out);have b4:=zm (a:=⟨w.heap.size,4,none⟩) (v:=int i64 x.ins) hz (zf HX.out);unfold maxLen at hc2;clear x0 x1 x2 x3 x4;go_wp2_with fail
   have hne:=z0H wr;refine zv hmx (by kernel_rfl) ?_;repeat (go_big_quiet_step (refine z4z (HL.out _)))
   refine wpQuiet_nil ?_;intro _ hw';obtain ⟨⟨W7,hW7⟩,hw''⟩:=hw';subst hw'';have HB7:=O (zi HB.out hW7);have HX7:=O ((hW7.block w.heap.size hz).trans HX.out);clear y0 y1 y2 y3 y4 b0 b1 b2 b3 b4 hW7
   cases h1:z1d y x with
   | false =>
    have HF:=O (HN.out h1);clear HH HN HA h1;go_wp2;go_roundw
    case rel=>exact ⟨k+1,by omega,by go_num,HF,HB7,HX7⟩
    case measure=>simp [intOf];omega
   | true =>
    have HF:=O (HH.out h1);clear HH HN HA h1;go_wp2;go_ret;exact ⟨zV HF.out.symm,HB7.out⟩
  ·obtain rfl:k=gs.length:=by omega
   have HF:=O (zgm HA.out);clear HA;go_wp2;go_ret;exact ⟨zV HF.out.symm,HB.out⟩
end
section
open Go.RowKit
theorem z34 (a b:Int) (w:World):Calls prog 82 #[int i64 a,int i64 b] w λe w'=>e=.returned (int i64 (max a b))/\w'=w:=by
 by_cases h:b < a
 ·have HE:Hid (max a b=a):=O (by omega);go_enter func82,ntmps82;go_wp2;go_ret;exact ⟨z6Z HE.out.symm,rfl⟩
 ·have HE:Hid (max a b=b):=O (by omega);go_enter func82,ntmps82;go_wp2;go_ret;exact ⟨z6Z HE.out.symm,rfl⟩
theorem zgn (ac ar:Option Addr) (cc cr:Nat) (t:T) (hb:t.rows.length<=8/\0<=t.foot/\t.foot<=t.rows.length) (r:Nat) (w:World) :
  Calls prog 83 #[.agg #[.slice ac t.cols.length cc,int i64 t.head,int i64 t.foot,.slice ar t.rows.length cr,int i64 t.gap],int i64 (r:Int)] w λe w'=>e=.returned (int i64 (z03 t r))/\Below w.heap.size w w':=by
 obtain ⟨h1,h2,h3⟩:=hb;by_cases c1:(r:Int) < t.head
 ·have HE:Hid (z03 t r=t.head):=O (by unfold z03;rw [if_pos c1]);go_enter func83,ntmps83;go_wp2;go_ret;exact ⟨z6Z HE.out.symm,by repeat (first | exact bR | apply ze)⟩
 ·by_cases c2:(t.rows.length:Int) - t.foot<=r
  ·have HE:Hid (z03 t r=t.rows.length):=O (by unfold z03;rw [if_neg c1,if_pos c2]);go_enter func83,ntmps83;go_wp2;go_ret;exact ⟨z6Z HE.out.symm,by repeat (first | exact bR | apply ze)⟩
  ·have HE:Hid (z03 t r=t.rows.length - t.foot):=O (by unfold z03;rw [if_neg c1,if_neg c2]);go_enter func83,ntmps83;go_wp2;go_ret;exact ⟨z6Z HE.out.symm,by repeat (first | exact bR | apply ze)⟩
def z6U (x:GC):List Value:=[int i64 x.row,int i64 x.col,int i64 x.rows,int i64 x.cols,int i64 x.ins]
def z9l (w:World) (base:Nat) (v:Value) (gs:List GC):Prop:=w.ownsRow base 51 5 v gs.length (gs.flatMap z6U)
theorem z9l.at {w:World} {base:Nat} {v:Value} {gs:List GC} (h:z9l w base v gs) (hs:∀ x ∈ gs,GOk x):z1K w base v gs:=by
 rcases h.2 with ⟨rfl,hn⟩ | ⟨g,cap,cur,rfl,hg,hc,h1,h2,_⟩
 ·exact ⟨none,0,by rw [hn],by omega,by unfold maxLen;omega,λi hi=>by omega⟩
 ·refine ⟨_,cap,rfl,h1,h2,λi hi=>⟨g,0,rfl,(bL hc),hg,?_,?_⟩⟩
  ·have hx:∀ j,j < 5->w.cell? ⟨g,i * 5+j,none⟩=(z6U gs[i])[j]?:=λj hj=>by
    have e:=z3M z6U 5 (λ_=>rfl) gs i hi j hj;rw [z4F h (u:=(z6U gs[i])[j]'(by show j < 5;exact hj)) (by rw [e];simp)];simp
   rw [z3s dG hi,Nat.zero_add];exact ⟨hx 0 (by omega),hx 1 (by omega),hx 2 (by omega),hx 3 (by omega),hx 4 (by omega)⟩
  ·rw [z3s dG hi];exact hs _ (List.getElem_mem hi)
theorem z1z.gok {n:Nat} {a:GC} (hn:n<=8) (h:z1z n a):GOk a:=by
 unfold z1z at h;unfold GOk I64;omega
theorem z1z.sm {n:Nat} {a:GC} (hn:n<=8) (h:z1z n a):Sm a:=by
 unfold z1z at h;unfold Sm;omega
theorem zgo:(prog.info? 51).map (λi=>(i.zero,i.size,i.bytes))=some (some (Value.agg #[int i64 0,int i64 0,int i64 0,int i64 0,int i64 0]),5,40):=by kernel_rfl
theorem zi2 (s0 s1 s2 s3 s4 s5 s6:ByteArray) (n:Nat) (h:s0.size<=n/\s1.size<=n/\s2.size<=n/\s3.size<=n/\s4.size<=n/\s5.size<=n/\s6.size<=n) (k:Int) (h0:0<=k) (h1:k < 7) :
  ∃ v:ByteArray,v.size<=n/\(#[Value.string s0,.string s1,.string s2,.string s3,.string s4,.string s5,.string s6]:Array Value)[k.toNat]?=some (.string v)/\∀ h,([Value.string s0,.string s1,.string s2,.string s3,.string s4,.string s5,.string s6]:List Value)[k.toNat]'h=.string v:=by
 rcases (by omega:k=0\/k=1\/k=2\/k=3\/k=4\/k=5\/k=6) with rfl | rfl | rfl | rfl | rfl | rfl | rfl
 ·exact ⟨s0,h.1,rfl,λ_=>rfl⟩
 ·exact ⟨s1,h.2.1,rfl,λ_=>rfl⟩
 ·exact ⟨s2,h.2.2.1,rfl,λ_=>rfl⟩
 ·exact ⟨s3,h.2.2.2.1,rfl,λ_=>rfl⟩
 ·exact ⟨s4,h.2.2.2.2.1,rfl,λ_=>rfl⟩
 ·exact ⟨s5,h.2.2.2.2.2.1,rfl,λ_=>rfl⟩
 ·exact ⟨s6,h.2.2.2.2.2.2,rfl,λ_=>rfl⟩
theorem zgp {s:ByteArray} (h:s.size=0):s.toList=[]:=by
 rw [Lib.toList_data];exact List.eq_nil_of_length_eq_zero (by simpa using h)
theorem zjj {s:ByteArray} (h:s.toList=[]):s.size=0:=by
 rw [Lib.toList_data] at h;have:=congrArg List.length h;simpa using this
theorem zf8 {s v:ByteArray} {q:Nat} (hs:s.size<=30) (hq:q<=s.size) (hv:v.size<=31):(s.extract 0 q ++ v ++ s.extract q s.size).size<=61:=by
 rw [ByteArray.size_append,ByteArray.size_append,ByteArray.size_extract,ByteArray.size_extract];omega
theorem zeu (w:World) (q:Obj):(w.alloc q).heap[w.heap.size]?=some q:=by show (w.heap.push q)[w.heap.size]?=_;simp
def z8J (w:World) (g:Nat):Prop:=w.heap[g]?=some (.cells #[.string ⟨#[97]⟩,.string ⟨#[97,110]⟩,.string ⟨#[116,104,101]⟩,.string ⟨#[111,118,101,114]⟩,.string ⟨#[117,110,100,101,114]⟩,.string ⟨#[109,101,97,100,111,119]⟩,.string ⟨#[108,105,103,104,116,104,111,117,115,101]⟩] 9)
theorem z91 (r B:Nat) (w:World) (h:Rd w r B) (hB:B<=900000) :
  Calls prog 134 #[.pointer (some ⟨r,0,none⟩)] w λe w'=>∃ s:ByteArray,e=.returned (.string s)/\s.size<=30/\Rd w' r (B+6)/\Bk r w w':=by
 have hlt:=h.lt;have hr0:w.heap.size ≠ r:=(by omega);have HR:Hid (Rd w r B):=h;clear h;go_enter func134,ntmps134;go_wp2_with fail
 refine (zC r B _ _ (Rd.alloc HR.out _) (by omega)).mono ?_;rintro e w1 ⟨k1,rfl,hk1,hR1,hb1⟩;obtain ⟨hk1a,hk1b⟩:=hk1 (by omega);have hz1:=hb1.size;simp at hz1;have W1:=O ((hb1.block w.heap.size (by simp) hr0).trans (zeu _ _));have HR1:Hid (Rd w1 r (B+1)):=hR1;have HB1:Hid (Bk r w w1):=Bk.trans (Bk.alloc (Bk.refl r w) _) hb1;clear hk1 hR1 hb1;have HW1:Hid (z8J w1 w.heap.size):=W1.out;obtain ⟨q1,rfl⟩:=Int.eq_ofNat_of_zero_le hk1a;clear W1;go_wp2_with fail
 go_loopw [4,5,6] (λs k _ W=>∃ (t:ByteArray) (q:Nat),s=.string t/\k=int i64 q/\t.size<=30/\q<=5/\w.heap.size+1<=W.heap.size/\Hid (Rd W r (B+6 - q))/\Hid (Bk r w W)/\Hid (z8J W w.heap.size)) (λ_ k _ _=>(intOf k).toNat)
 case atStart=>exact ⟨_,q1,rfl,rfl,by decide,by omega,by omega,Rd.mono HR1.out (by omega),HB1,HW1⟩
 case round =>
  obtain ⟨t,q,rfl,rfl,ht,hq,hsz,HRr,HBr,HWr⟩:=hrel;by_cases hq0:q=0
  ·subst hq0;go_wp2;go_ret;exact ⟨t,rfl,ht,HRr.out,HBr.out⟩
  ·have hq1:(0:Int) < (q:Int):=(by omega);go_wp2_with fail
   refine (zC r (B+6 - q) _ _ HRr.out (by omega)).mono ?_;rintro e w2 ⟨k2,rfl,hk2,hR2,hb2⟩;obtain ⟨hk2a,hk2b⟩:=hk2 (by omega);have W2:z8J w2 w.heap.size:=(hb2.block w.heap.size (by omega) hr0).trans HWr.out;obtain ⟨v,hv,hl,_⟩:=zi2 ⟨#[97]⟩ ⟨#[97,110]⟩ ⟨#[116,104,101]⟩ ⟨#[111,118,101,114]⟩ ⟨#[117,110,100,101,114]⟩ ⟨#[109,101,97,100,111,119]⟩ ⟨#[108,105,103,104,116,104,111,117,115,101]⟩ 10 (by decide) k2 hk2a hk2b;have hcv:w2.cell? ⟨w.heap.size,k2.toNat,none⟩=some (.string v):=(Joins.cell_of_block W2 _).trans hl;have HW2:Hid (z8J w2 w.heap.size):=W2;have HR2:Hid (Rd w2 r (B+6 - (q - 1))):=Rd.mono hR2 (by omega);have HB2:Hid (Bk r w w2):=Bk.trans HBr.out hb2;have hz2:w.heap.size+1<=w2.heap.size:=(by have:=hb2.size;omega);clear hk2 hR2 hb2 W2 hl HRr HBr HWr;by_cases h0:t.size=0
   ·have he:t.toList=[]:=zgp h0;go_wp2;go_roundw
    case rel=>exact ⟨v,q - 1,rfl,by go_num,by omega,by omega,hz2,HR2,HB2,HW2⟩
    case measure=>simp [intOf];omega
   ·have he:¬ t.toList=[]:=λh=>h0 (zjj h);have he2:t.toList.isEmpty=false:=(by simpa using he);by_cases h30:t.size+1+v.size<=30
    ·have h30':(t.size:Int)+1+(v.size:Int)<=30:=(by omega);go_wp2;go_roundw
     case rel=>exact ⟨_,q - 1,rfl,by go_num,by rw [ByteArray.size_append,ByteArray.size_append];have:(ByteArray.mk #[32]).size=1:=rfl;omega,by omega,hz2,HR2,HB2,HW2⟩
     case measure=>simp [intOf];omega
    ·have h30':¬ (t.size:Int)+1+(v.size:Int)<=30:=(by omega);go_wp2;go_roundw
     case rel=>exact ⟨t,q - 1,rfl,by go_num,ht,by omega,hz2,HR2,HB2,HW2⟩
     case measure=>simp [intOf];omega
theorem z71 (r B:Nat) (n:Int) (hn:1<=n) (w:World) (h:Rd w r B) (hB:B<=800000) :
  Calls prog 136 #[.pointer (some ⟨r,0,none⟩),int i64 n] w λe w'=>∃ s:ByteArray,e=.returned (.string s)/\s.size<=61/\Rd w' r (B+9)/\Bk r w w':=by
 have hlt:=h.lt;have HR:Hid (Rd w r B):=h;clear h;go_enter func136,ntmps136;go_wp2_with fail
 refine (z91 r B _ HR.out (by omega)).mono ?_;rintro e w1 ⟨s,rfl,hs,hR1,hb1⟩;have HR1:=O hR1;have HB1:=O hb1;have hz1:=hb1.size;clear hR1 hb1;go_wp2_with fail
 refine (zC r (B+6) _ _ HR1.out (by omega)).mono ?_;rintro e w2 ⟨k2,rfl,hk2,hR2,hb2⟩;obtain ⟨hk2a,hk2b⟩:=hk2 (by omega);have HR2:=O hR2;have HB2:=O (Bk.trans HB1.out hb2);have hz2:=hb2.size;clear hR2 hb2 hk2 HR1 HB1;by_cases h2:0 < k2
 ·go_wp2;go_ret;exact ⟨s,rfl,by omega,Rd.mono HR2.out (by omega),HB2.out⟩
 ·go_wp2_with fail
  refine (zC r (B+7) _ _ HR2.out (by omega)).mono ?_;rintro e w3 ⟨k3,rfl,hk3,hR3,hb3⟩;obtain ⟨hk3a,hk3b⟩:=hk3 (by omega);obtain ⟨q,rfl⟩:=Int.eq_ofNat_of_zero_le hk3a;have HR3:=O hR3;have HB3:=O (Bk.trans HB2.out hb3);have hz3:=hb3.size;clear hR3 hb3 hk3 HR2 HB2;have hq:(q:Int)<=(s.size:Int):=(by omega);have hq':q<=s.size:=(by omega);go_wp2_with fail
  have hlr:w3.heap.size ≠ r:=(by omega)
  go_region_with (first
   | (go_at_call 59;refine (zC r (B+8) _ _ (Rd.drew (Rd.alloc HR3.out _)) (by omega)).mono ?_;rintro e w4 ⟨k4,rfl,hk4,hR4,hb4⟩;obtain ⟨hk4a,hk4b⟩:=hk4 (by omega);obtain ⟨v,hv,hl,_⟩:=zi2 ⟨#[32]⟩ ⟨#[32,32]⟩ ⟨#[65]⟩ ⟨#[49]⟩ ⟨#[45]⟩ ⟨#[0]⟩ ⟨#[97,98,99,100,101,102,103,104,105,106,97,98,99,100,101,102,103,104,105,106,97,98,99,100,101,102,103,104,105,106,120]⟩ 31 (by decide) k4 hk4a hk4b;have hcv:w4.cell? ⟨w3.heap.size,k4.toNat,none⟩=some (.string v):=(Joins.cell_of_block ((hb4.block w3.heap.size (by simp) hlr).trans (zeu _ _)) _).trans hl;have HR4:=O hR4;have HB4:=O (Bk.trans (Bk.drew (Bk.alloc HB3.out _)) hb4);clear hk4 hR4 hb4 hl)
   | (go_at_call 59;refine (zC r (B+8) _ _ (Rd.drew HR3.out) (by omega)).mono ?_;rintro e w4 ⟨k4,rfl,hk4,hR4,hb4⟩;obtain ⟨hk4a,hk4b⟩:=hk4 (by omega);obtain ⟨v,hv,hl,hge⟩:=zi2 ⟨#[32]⟩ ⟨#[32,32]⟩ ⟨#[65]⟩ ⟨#[49]⟩ ⟨#[45]⟩ ⟨#[0]⟩ ⟨#[97,98,99,100,101,102,103,104,105,106,97,98,99,100,101,102,103,104,105,106,97,98,99,100,101,102,103,104,105,106,120]⟩ 31 (by decide) k4 hk4a hk4b;have HR4:=O hR4;have HB4:=O (Bk.trans (Bk.drew HB3.out) hb4);clear hk4 hR4 hb4 hl))
  all_goals
   go_wp2;go_ret;exact ⟨_,rfl,zf8 hs hq' hv,by first | exact HR4.out | exact Rd.alloc HR4.out _,by first | exact HB4.out | exact Bk.alloc HB4.out _⟩
theorem zi3 (a b c:Int) (k:Int) (h0:0<=k) (h1:k < 3):∃ v:Int,(#[Value.int .i64 a,int i64 b,int i64 c]:Array Value)[k.toNat]?=some (int i64 v):=by
 rcases (by omega:k=0\/k=1\/k=2) with rfl | rfl | rfl <;> exact ⟨_,rfl⟩
theorem zcA (a b c d:Int) (k:Int) (h0:0<=k) (h1:k < 4):∃ v:Int,(#[Value.int .i64 a,int i64 b,int i64 c,int i64 d]:Array Value)[k.toNat]?=some (int i64 v):=by
 rcases (by omega:k=0\/k=1\/k=2\/k=3) with rfl | rfl | rfl | rfl <;> exact ⟨_,rfl⟩
theorem z0f {w:World} {g:Nat} {x y:Value} {t:TypeId} (h:w.heap[g]?=some (.cells #[x,y] t)) :
  (w.cell? ⟨g,0,none⟩=some x/\w.cell? ⟨g,1,none⟩=some y)/\w.frozen? ⟨g,0,none⟩=false/\w.frozen? ⟨g,1,none⟩=false :=
 ⟨⟨Joins.cell_of_block h 0,Joins.cell_of_block h 1⟩,Joins.unfrozen_of_block h 0,Joins.unfrozen_of_block h 1⟩
theorem zk7 {w:World} {g:Nat} {x y:Value} {t:TypeId} (h:w.heap[g]?=some (.cells #[x,y] t)) (v:Value):(w.setCell ⟨g,0,none⟩ v).heap[g]?=some (.cells #[v,y] t):=by rw [Joins.block_setCell h];simp
theorem zkZ {w:World} {g:Nat} {x y:Value} {t:TypeId} (h:w.heap[g]?=some (.cells #[x,y] t)) (v:Value):(w.setCell ⟨g,1,none⟩ v).heap[g]?=some (.cells #[x,v] t):=by rw [Joins.block_setCell h];simp
theorem z21 {w:World} {g:Nat} {o:Option Obj} (h:w.heap[g]?=o) {p:Addr} (hp:g ≠ p.block) (v:Value):(w.setCell p v).heap[g]?=o:=(bS hp).trans h
theorem z0r {w:World} {g:Nat} {o:Obj} (h:w.heap[g]?=some o) (q:Obj):(w.alloc q).heap[g]?=some o:=(bA (bL h)).trans h
theorem z3A (w:World) (q:Obj):(w.alloc q).heap[w.heap.size]?=some q:=by show (w.heap.push q)[w.heap.size]?=_;simp
theorem zjk (w:World) (p q:Obj):((w.alloc p).alloc q).heap[w.heap.size+1]?=some q:=by
 have h:=z3A (w.alloc p) q;rw [show (w.alloc p).heap.size=w.heap.size+1 by simp] at h;exact h
theorem z4e (r B:Nat) (n:Int) (hn:1<=n) (w:World) (h:Rd w r B) (hB:B<=900000) :
  Calls prog 135 #[.pointer (some ⟨r,0,none⟩),int i64 n] w λe w'=>∃ x y:Int,e=.returned (.agg #[int i64 x,int i64 y])/\Rd w' r (B+6)/\Bk r w w':=by
 have hlt:=h.lt;have hr0:w.heap.size ≠ r:=(by omega);have hr1:w.heap.size+1 ≠ r:=(by omega);have HR:Hid (Rd w r B):=h;clear h;go_enter func135,ntmps135;go_wp2_with fail
 refine (zC r (B+0) _ _ (Rd.alloc (Rd.alloc HR.out _) _) (by omega)).mono ?_;rintro e w1 ⟨k1,rfl,hk1,hR1,hb1⟩;obtain ⟨hk1a,hk1b⟩:=hk1 (by omega);have hz1:=hb1.size
 try simp at hz1
 have hx1:w.heap.size+1 < w1.heap.size:=(by omega);have hw1:w1.heap.size ≠ r:=(by omega);have A1:=O ((hb1.block w.heap.size (by first | omega | (simp;omega) | simp) hr0).trans (z0r (z3A _ _) _));have B1:=O ((hb1.block (w.heap.size+1) (by first | omega | (simp;omega) | simp) hr1).trans (zjk _ _ _));obtain ⟨⟨a10,a11⟩,af10,af11⟩:=z0f A1.out;obtain ⟨⟨b10,b11⟩,bf10,bf11⟩:=z0f B1.out;have HR1:Hid (Rd w1 r (B+1)):=hR1;have HB1:Hid (Bk r _ w1):=hb1;clear hR1 hb1 hk1 hz1
 rcases (by omega:(k1=0\/k1=1)\/k1=2\/k1=3) with hk | rfl | rfl
 ·rcases hk with rfl | rfl
  all_goals
   go_wp2_with fail
   refine (zC r (B+1) _ _ HR1.out (by omega)).mono ?_;rintro e w2 ⟨k2,rfl,hk2,hR2,hb2⟩;obtain ⟨hk2a,hk2b⟩:=hk2 (by omega);have hz2:=hb2.size
   try simp at hz2
   have hx2:w.heap.size+1 < w2.heap.size:=(by omega);have hw2:w2.heap.size ≠ r:=(by omega);have A2:=O ((hb2.block w.heap.size (by first | omega | (simp;omega) | simp) hr0).trans (A1.out));have B2:=O ((hb2.block (w.heap.size+1) (by first | omega | (simp;omega) | simp) hr1).trans (B1.out));obtain ⟨⟨a20,a21⟩,af20,af21⟩:=z0f A2.out;obtain ⟨⟨b20,b21⟩,bf20,bf21⟩:=z0f B2.out;have HR2:Hid (Rd w2 r (B+2)):=hR2;have HB2:Hid (Bk r _ w2):=hb2;clear hR2 hb2 hk2 hz2;clear a10 a11 af10 af11 b10 b11 bf10 bf11 A1 B1 hw1;go_wp2_with fail
   refine (zC r (B+2) _ _ HR2.out (by omega)).mono ?_;rintro e w3 ⟨k3,rfl,hk3,hR3,hb3⟩;obtain ⟨hk3a,hk3b⟩:=hk3 (by omega);have hz3:=hb3.size
   try simp at hz3
   have hx3:w.heap.size+1 < w3.heap.size:=(by omega);have hw3:w3.heap.size ≠ r:=(by omega);have A3:=O ((hb3.block w.heap.size (by first | omega | (simp;omega) | simp) hr0).trans (A2.out));have B3:=O ((hb3.block (w.heap.size+1) (by first | omega | (simp;omega) | simp) hr1).trans (B2.out));obtain ⟨⟨a30,a31⟩,af30,af31⟩:=z0f A3.out;obtain ⟨⟨b30,b31⟩,bf30,bf31⟩:=z0f B3.out;have HR3:Hid (Rd w3 r (B+3)):=hR3;have HB3:Hid (Bk r _ w3):=hb3;clear hR3 hb3 hk3 hz3;clear a20 a21 af20 af21 b20 b21 bf20 bf21 A2 B2 hw2;go_wp2_with fail
   refine (zC r (B+3) _ _ (Rd.set (Rd.set HR3.out (by dsimp only;omega) _) (by dsimp only;omega) _) (by omega)).mono ?_;rintro e w4 ⟨k4,rfl,hk4,hR4,hb4⟩;obtain ⟨hk4a,hk4b⟩:=hk4 (by omega);have hz4:=hb4.size
   try simp at hz4
   have hx4:w.heap.size+1 < w4.heap.size:=(by omega);have hw4:w4.heap.size ≠ r:=(by omega);have A4:=O ((hb4.block w.heap.size (by first | omega | (simp;omega) | simp) hr0).trans (z21 (z21 A3.out (by dsimp only;omega) _) (by dsimp only;omega) _));have B4:=O ((hb4.block (w.heap.size+1) (by first | omega | (simp;omega) | simp) hr1).trans (zkZ (zk7 B3.out _) _));obtain ⟨⟨a40,a41⟩,af40,af41⟩:=z0f A4.out;obtain ⟨⟨b40,b41⟩,bf40,bf41⟩:=z0f B4.out;have HR4:Hid (Rd w4 r (B+4)):=hR4;have HB4:Hid (Bk r _ w4):=hb4;clear hR4 hb4 hk4 hz4;clear a30 a31 af30 af31 b30 b31 bf30 bf31 A3 B3 hw3;by_cases e4:k4=0
   ·subst e4;go_wp2_with fail
    refine (zC r (B+4) _ _ HR4.out (by omega)).mono ?_;rintro e w5 ⟨k5,rfl,hk5,hR5,hb5⟩;obtain ⟨hk5a,hk5b⟩:=hk5 (by omega);have hz5:=hb5.size
    try simp at hz5
    have hx5:w.heap.size+1 < w5.heap.size:=(by omega);have hw5:w5.heap.size ≠ r:=(by omega);have A5:=O ((hb5.block w.heap.size (by first | omega | (simp;omega) | simp) hr0).trans (A4.out));have B5:=O ((hb5.block (w.heap.size+1) (by first | omega | (simp;omega) | simp) hr1).trans (B4.out));obtain ⟨⟨a50,a51⟩,af50,af51⟩:=z0f A5.out;obtain ⟨⟨b50,b51⟩,bf50,bf51⟩:=z0f B5.out;have HR5:Hid (Rd w5 r (B+5)):=hR5;have HB5:Hid (Bk r _ w5):=hb5;clear hR5 hb5 hk5 hz5;clear a40 a41 af40 af41 b40 b41 bf40 bf41 A4 B4 hw4;by_cases e5:k5=0
    ·subst e5;go_wp2_with fail
     refine (zC r (B+5) _ _ (Rd.alloc HR5.out _) (by omega)).mono ?_;rintro e w6 ⟨k6,rfl,hk6,hR6,hb6⟩;obtain ⟨hk6a,hk6b⟩:=hk6 (by omega);have hz6:=hb6.size
     try simp at hz6
     have hx6:w.heap.size+1 < w6.heap.size:=(by omega);have hw6:w6.heap.size ≠ r:=(by omega);have A6:=O ((hb6.block w.heap.size (by first | omega | (simp;omega) | simp) hr0).trans (z0r A5.out _));have B6:=O ((hb6.block (w.heap.size+1) (by first | omega | (simp;omega) | simp) hr1).trans (z0r B5.out _));obtain ⟨⟨a60,a61⟩,af60,af61⟩:=z0f A6.out;obtain ⟨⟨b60,b61⟩,bf60,bf61⟩:=z0f B6.out;obtain ⟨v,hv⟩:=zi3 (-1) 5 1 k6 hk6a hk6b;have hcv:w6.cell? ⟨w5.heap.size,k6.toNat,none⟩=some (int i64 v):=(Joins.cell_of_block ((hb6.block w5.heap.size (by simp) hw5).trans (z3A _ _)) _).trans hv;clear hv;have HR6:Hid (Rd w6 r (B+6)):=hR6;have HB6:Hid (Bk r _ w6):=hb6;clear hR6 hb6 hk6 hz6;clear a50 a51 af50 af51 b50 b51 bf50 bf51 A5 B5 hw5;go_wp2;exact bodyPost_ret (v:=.agg #[int i64 (v),int i64 (1+k3)]) (by simp [results,results135,go_sem,a60,a61]) rfl ⟨v,1+k3,rfl,Rd.mono (B:=B+6) (Rd.set (Rd.set (Rd.set HR6.out (by dsimp only;omega) _) (by dsimp only;omega) _) (by dsimp only;omega) _) (by omega),(Bk.set (Bk.set (Bk.set (Bk.trans (Bk.alloc (Bk.trans (Bk.trans (Bk.set (Bk.set (Bk.trans (Bk.trans (Bk.trans (Bk.alloc (Bk.alloc (Bk.refl r w) _) _) HB1.out) HB2.out) HB3.out) (Or.inr (by dsimp only;omega)) _) (Or.inr (by dsimp only;omega)) _) HB4.out) HB5.out) _) HB6.out) (Or.inr (by dsimp only;omega)) _) (Or.inr (by dsimp only;omega)) _) (Or.inr (by dsimp only;omega)) _)⟩
    ·have e5':(k5 == 0)=false:=beq_eq_false_iff_ne.2 e5;go_wp2_with fail
     refine (zC r (B+5) _ _ (Rd.alloc HR5.out _) (by omega)).mono ?_;rintro e w6 ⟨k6,rfl,hk6,hR6,hb6⟩;obtain ⟨hk6a,hk6b⟩:=hk6 (by omega);have hz6:=hb6.size
     try simp at hz6
     have hx6:w.heap.size+1 < w6.heap.size:=(by omega);have hw6:w6.heap.size ≠ r:=(by omega);have A6:=O ((hb6.block w.heap.size (by first | omega | (simp;omega) | simp) hr0).trans (z0r A5.out _));have B6:=O ((hb6.block (w.heap.size+1) (by first | omega | (simp;omega) | simp) hr1).trans (z0r B5.out _));obtain ⟨⟨a60,a61⟩,af60,af61⟩:=z0f A6.out;obtain ⟨⟨b60,b61⟩,bf60,bf61⟩:=z0f B6.out;obtain ⟨v,hv⟩:=zcA (-1) 4 0 1 k6 hk6a hk6b;have hcv:w6.cell? ⟨w5.heap.size,k6.toNat,none⟩=some (int i64 v):=(Joins.cell_of_block ((hb6.block w5.heap.size (by simp) hw5).trans (z3A _ _)) _).trans hv;clear hv;have HR6:Hid (Rd w6 r (B+6)):=hR6;have HB6:Hid (Bk r _ w6):=hb6;clear hR6 hb6 hk6 hz6;clear a50 a51 af50 af51 b50 b51 bf50 bf51 A5 B5 hw5;go_wp2;exact bodyPost_ret (v:=.agg #[int i64 (1+k2),int i64 (v)]) (by simp [results,results135,go_sem,a60,a61]) rfl ⟨1+k2,v,rfl,Rd.mono (B:=B+6) (Rd.set (Rd.set (Rd.set HR6.out (by dsimp only;omega) _) (by dsimp only;omega) _) (by dsimp only;omega) _) (by omega),(Bk.set (Bk.set (Bk.set (Bk.trans (Bk.alloc (Bk.trans (Bk.trans (Bk.set (Bk.set (Bk.trans (Bk.trans (Bk.trans (Bk.alloc (Bk.alloc (Bk.refl r w) _) _) HB1.out) HB2.out) HB3.out) (Or.inr (by dsimp only;omega)) _) (Or.inr (by dsimp only;omega)) _) HB4.out) HB5.out) _) HB6.out) (Or.inr (by dsimp only;omega)) _) (Or.inr (by dsimp only;omega)) _) (Or.inr (by dsimp only;omega)) _)⟩
   ·have e4':(k4 == 0)=false:=beq_eq_false_iff_ne.2 e4;go_wp2;exact bodyPost_ret (v:=.agg #[int i64 (1+k2),int i64 (1+k3)]) (by simp [results,results135,go_sem,a40,a41]) rfl ⟨1+k2,1+k3,rfl,Rd.mono (B:=B+4) (Rd.set (Rd.set HR4.out (by dsimp only;omega) _) (by dsimp only;omega) _) (by omega),(Bk.set (Bk.set (Bk.trans (Bk.set (Bk.set (Bk.trans (Bk.trans (Bk.trans (Bk.alloc (Bk.alloc (Bk.refl r w) _) _) HB1.out) HB2.out) HB3.out) (Or.inr (by dsimp only;omega)) _) (Or.inr (by dsimp only;omega)) _) HB4.out) (Or.inr (by dsimp only;omega)) _) (Or.inr (by dsimp only;omega)) _)⟩
 ·go_wp2_with fail
  refine (zC r (B+1) _ _ HR1.out (by omega)).mono ?_;rintro e w2 ⟨k2,rfl,hk2,hR2,hb2⟩;obtain ⟨hk2a,hk2b⟩:=hk2 (by omega);have hz2:=hb2.size
  try simp at hz2
  have hx2:w.heap.size+1 < w2.heap.size:=(by omega);have hw2:w2.heap.size ≠ r:=(by omega);have A2:=O ((hb2.block w.heap.size (by first | omega | (simp;omega) | simp) hr0).trans (A1.out));have B2:=O ((hb2.block (w.heap.size+1) (by first | omega | (simp;omega) | simp) hr1).trans (B1.out));obtain ⟨⟨a20,a21⟩,af20,af21⟩:=z0f A2.out;obtain ⟨⟨b20,b21⟩,bf20,bf21⟩:=z0f B2.out;have HR2:Hid (Rd w2 r (B+2)):=hR2;have HB2:Hid (Bk r _ w2):=hb2;clear hR2 hb2 hk2 hz2;clear a10 a11 af10 af11 b10 b11 bf10 bf11 A1 B1 hw1;by_cases e2:k2=0
  all_goals
   first | subst e2 | have e2':(k2 == 0)=false:=beq_eq_false_iff_ne.2 e2
   go_wp2_with fail
   first | refine (zC r (B+2) _ _ (Rd.set HR2.out (by dsimp only;omega) _) (by omega)).mono ?_ | refine (zC r (B+2) _ _ HR2.out (by omega)).mono ?_
   rintro e w3 ⟨k3,rfl,hk3,hR3,hb3⟩;obtain ⟨hk3a,hk3b⟩:=hk3 (by omega);have hz3:=hb3.size
   try simp at hz3
   have hx3:w.heap.size+1 < w3.heap.size:=(by omega);have hw3:w3.heap.size ≠ r:=(by omega);have A3:=O ((hb3.block w.heap.size (by first | omega | (simp;omega) | simp) hr0).trans (by first | exact (z21 A2.out (by dsimp only;omega) _) | exact (A2.out)));have B3:=O ((hb3.block (w.heap.size+1) (by first | omega | (simp;omega) | simp) hr1).trans (by first | exact (zk7 B2.out _) | exact (B2.out)));obtain ⟨⟨a30,a31⟩,af30,af31⟩:=z0f A3.out;obtain ⟨⟨b30,b31⟩,bf30,bf31⟩:=z0f B3.out;have HR3:Hid (Rd w3 r (B+3)):=hR3;have HB3:Hid (Bk r _ w3):=hb3;clear hR3 hb3 hk3 hz3;clear a20 a21 af20 af21 b20 b21 bf20 bf21 A2 B2 hw2;by_cases e3:k3=0
   ·subst e3;go_wp2_with fail
    refine (zC r (B+3) _ _ HR3.out (by omega)).mono ?_;rintro e w4 ⟨k4,rfl,hk4,hR4,hb4⟩;obtain ⟨hk4a,hk4b⟩:=hk4 (by omega);have hz4:=hb4.size
    try simp at hz4
    have hx4:w.heap.size+1 < w4.heap.size:=(by omega);have hw4:w4.heap.size ≠ r:=(by omega);have A4:=O ((hb4.block w.heap.size (by first | omega | (simp;omega) | simp) hr0).trans (A3.out));have B4:=O ((hb4.block (w.heap.size+1) (by first | omega | (simp;omega) | simp) hr1).trans (B3.out));obtain ⟨⟨a40,a41⟩,af40,af41⟩:=z0f A4.out;obtain ⟨⟨b40,b41⟩,bf40,bf41⟩:=z0f B4.out;have HR4:Hid (Rd w4 r (B+4)):=hR4;have HB4:Hid (Bk r _ w4):=hb4;clear hR4 hb4 hk4 hz4;clear a30 a31 af30 af31 b30 b31 bf30 bf31 A3 B3 hw3;by_cases e4:k4=0
    ·subst e4;go_wp2_with fail
     refine (zC r (B+4) _ _ (Rd.alloc HR4.out _) (by omega)).mono ?_;rintro e w5 ⟨k5,rfl,hk5,hR5,hb5⟩;obtain ⟨hk5a,hk5b⟩:=hk5 (by omega);have hz5:=hb5.size
     try simp at hz5
     have hx5:w.heap.size+1 < w5.heap.size:=(by omega);have hw5:w5.heap.size ≠ r:=(by omega);have A5:=O ((hb5.block w.heap.size (by first | omega | (simp;omega) | simp) hr0).trans (z0r A4.out _));have B5:=O ((hb5.block (w.heap.size+1) (by first | omega | (simp;omega) | simp) hr1).trans (z0r B4.out _));obtain ⟨⟨a50,a51⟩,af50,af51⟩:=z0f A5.out;obtain ⟨⟨b50,b51⟩,bf50,bf51⟩:=z0f B5.out;obtain ⟨v,hv⟩:=zi3 (-1) 5 1 k5 hk5a hk5b;have hcv:w5.cell? ⟨w4.heap.size,k5.toNat,none⟩=some (int i64 v):=(Joins.cell_of_block ((hb5.block w4.heap.size (by simp) hw4).trans (z3A _ _)) _).trans hv;clear hv;have HR5:Hid (Rd w5 r (B+5)):=hR5;have HB5:Hid (Bk r _ w5):=hb5;clear hR5 hb5 hk5 hz5;clear a40 a41 af40 af41 b40 b41 bf40 bf41 A4 B4 hw4;go_wp2
     first | exact bodyPost_ret (v:=.agg #[int i64 (v),int i64 (0)]) (by simp [results,results135,go_sem,a50,a51]) rfl ⟨v,0,rfl,Rd.mono (B:=B+5) (Rd.set (Rd.set (Rd.set HR5.out (by dsimp only;omega) _) (by dsimp only;omega) _) (by dsimp only;omega) _) (by omega),(Bk.set (Bk.set (Bk.set (Bk.trans (Bk.alloc (Bk.trans (Bk.trans (Bk.set (Bk.trans (Bk.trans (Bk.alloc (Bk.alloc (Bk.refl r w) _) _) HB1.out) HB2.out) (Or.inr (by dsimp only;omega)) _) HB3.out) HB4.out) _) HB5.out) (Or.inr (by dsimp only;omega)) _) (Or.inr (by dsimp only;omega)) _) (Or.inr (by dsimp only;omega)) _)⟩ | exact bodyPost_ret (v:=.agg #[int i64 (v),int i64 (0)]) (by simp [results,results135,go_sem,a50,a51]) rfl ⟨v,0,rfl,Rd.mono (B:=B+5) (Rd.set (Rd.set (Rd.set HR5.out (by dsimp only;omega) _) (by dsimp only;omega) _) (by dsimp only;omega) _) (by omega),(Bk.set (Bk.set (Bk.set (Bk.trans (Bk.alloc (Bk.trans (Bk.trans (Bk.trans (Bk.trans (Bk.alloc (Bk.alloc (Bk.refl r w) _) _) HB1.out) HB2.out) HB3.out) HB4.out) _) HB5.out) (Or.inr (by dsimp only;omega)) _) (Or.inr (by dsimp only;omega)) _) (Or.inr (by dsimp only;omega)) _)⟩
    ·have e4':(k4 == 0)=false:=beq_eq_false_iff_ne.2 e4;go_wp2_with fail
     refine (zC r (B+4) _ _ (Rd.alloc HR4.out _) (by omega)).mono ?_;rintro e w5 ⟨k5,rfl,hk5,hR5,hb5⟩;obtain ⟨hk5a,hk5b⟩:=hk5 (by omega);have hz5:=hb5.size
     try simp at hz5
     have hx5:w.heap.size+1 < w5.heap.size:=(by omega);have hw5:w5.heap.size ≠ r:=(by omega);have A5:=O ((hb5.block w.heap.size (by first | omega | (simp;omega) | simp) hr0).trans (z0r A4.out _));have B5:=O ((hb5.block (w.heap.size+1) (by first | omega | (simp;omega) | simp) hr1).trans (z0r B4.out _));obtain ⟨⟨a50,a51⟩,af50,af51⟩:=z0f A5.out;obtain ⟨⟨b50,b51⟩,bf50,bf51⟩:=z0f B5.out;obtain ⟨v,hv⟩:=zcA (-1) 4 0 1 k5 hk5a hk5b;have hcv:w5.cell? ⟨w4.heap.size,k5.toNat,none⟩=some (int i64 v):=(Joins.cell_of_block ((hb5.block w4.heap.size (by simp) hw4).trans (z3A _ _)) _).trans hv;clear hv;have HR5:Hid (Rd w5 r (B+5)):=hR5;have HB5:Hid (Bk r _ w5):=hb5;clear hR5 hb5 hk5 hz5;clear a40 a41 af40 af41 b40 b41 bf40 bf41 A4 B4 hw4;go_wp2
     first | exact bodyPost_ret (v:=.agg #[int i64 (4),int i64 (v)]) (by simp [results,results135,go_sem,a50,a51]) rfl ⟨4,v,rfl,Rd.mono (B:=B+5) (Rd.set (Rd.set (Rd.set HR5.out (by dsimp only;omega) _) (by dsimp only;omega) _) (by dsimp only;omega) _) (by omega),(Bk.set (Bk.set (Bk.set (Bk.trans (Bk.alloc (Bk.trans (Bk.trans (Bk.set (Bk.trans (Bk.trans (Bk.alloc (Bk.alloc (Bk.refl r w) _) _) HB1.out) HB2.out) (Or.inr (by dsimp only;omega)) _) HB3.out) HB4.out) _) HB5.out) (Or.inr (by dsimp only;omega)) _) (Or.inr (by dsimp only;omega)) _) (Or.inr (by dsimp only;omega)) _)⟩ | exact bodyPost_ret (v:=.agg #[int i64 (0),int i64 (v)]) (by simp [results,results135,go_sem,a50,a51]) rfl ⟨0,v,rfl,Rd.mono (B:=B+5) (Rd.set (Rd.set (Rd.set HR5.out (by dsimp only;omega) _) (by dsimp only;omega) _) (by dsimp only;omega) _) (by omega),(Bk.set (Bk.set (Bk.set (Bk.trans (Bk.alloc (Bk.trans (Bk.trans (Bk.trans (Bk.trans (Bk.alloc (Bk.alloc (Bk.refl r w) _) _) HB1.out) HB2.out) HB3.out) HB4.out) _) HB5.out) (Or.inr (by dsimp only;omega)) _) (Or.inr (by dsimp only;omega)) _) (Or.inr (by dsimp only;omega)) _)⟩
   ·have e3':(k3 == 0)=false:=beq_eq_false_iff_ne.2 e3;go_wp2
    first | exact bodyPost_ret (v:=.agg #[int i64 (4),int i64 (0)]) (by simp [results,results135,go_sem,a30,a31]) rfl ⟨4,0,rfl,Rd.mono (B:=B+3) (Rd.set (Rd.set HR3.out (by dsimp only;omega) _) (by dsimp only;omega) _) (by omega),(Bk.set (Bk.set (Bk.trans (Bk.set (Bk.trans (Bk.trans (Bk.alloc (Bk.alloc (Bk.refl r w) _) _) HB1.out) HB2.out) (Or.inr (by dsimp only;omega)) _) HB3.out) (Or.inr (by dsimp only;omega)) _) (Or.inr (by dsimp only;omega)) _)⟩ | exact bodyPost_ret (v:=.agg #[int i64 (0),int i64 (0)]) (by simp [results,results135,go_sem,a30,a31]) rfl ⟨0,0,rfl,Rd.mono (B:=B+3) (Rd.set (Rd.set HR3.out (by dsimp only;omega) _) (by dsimp only;omega) _) (by omega),(Bk.set (Bk.set (Bk.trans (Bk.trans (Bk.trans (Bk.alloc (Bk.alloc (Bk.refl r w) _) _) HB1.out) HB2.out) HB3.out) (Or.inr (by dsimp only;omega)) _) (Or.inr (by dsimp only;omega)) _)⟩
 ·go_wp2_with fail
  refine (zC r (B+1) _ _ HR1.out (by omega)).mono ?_;rintro e w2 ⟨k2,rfl,hk2,hR2,hb2⟩;obtain ⟨hk2a,hk2b⟩:=hk2 (by omega);have hz2:=hb2.size
  try simp at hz2
  have hx2:w.heap.size+1 < w2.heap.size:=(by omega);have hw2:w2.heap.size ≠ r:=(by omega);have A2:=O ((hb2.block w.heap.size (by first | omega | (simp;omega) | simp) hr0).trans (A1.out));have B2:=O ((hb2.block (w.heap.size+1) (by first | omega | (simp;omega) | simp) hr1).trans (B1.out));obtain ⟨⟨a20,a21⟩,af20,af21⟩:=z0f A2.out;obtain ⟨⟨b20,b21⟩,bf20,bf21⟩:=z0f B2.out;have HR2:Hid (Rd w2 r (B+2)):=hR2;have HB2:Hid (Bk r _ w2):=hb2;clear hR2 hb2 hk2 hz2;clear a10 a11 af10 af11 b10 b11 bf10 bf11 A1 B1 hw1;by_cases e2:k2=0
  ·subst e2;go_wp2_with fail
   refine (zC r (B+2) _ _ HR2.out (by omega)).mono ?_;rintro e w3 ⟨k3,rfl,hk3,hR3,hb3⟩;obtain ⟨hk3a,hk3b⟩:=hk3 (by omega);have hz3:=hb3.size
   try simp at hz3
   have hx3:w.heap.size+1 < w3.heap.size:=(by omega);have hw3:w3.heap.size ≠ r:=(by omega);have A3:=O ((hb3.block w.heap.size (by first | omega | (simp;omega) | simp) hr0).trans (A2.out));have B3:=O ((hb3.block (w.heap.size+1) (by first | omega | (simp;omega) | simp) hr1).trans (B2.out));obtain ⟨⟨a30,a31⟩,af30,af31⟩:=z0f A3.out;obtain ⟨⟨b30,b31⟩,bf30,bf31⟩:=z0f B3.out;have HR3:Hid (Rd w3 r (B+3)):=hR3;have HB3:Hid (Bk r _ w3):=hb3;clear hR3 hb3 hk3 hz3;clear a20 a21 af20 af21 b20 b21 bf20 bf21 A2 B2 hw2;by_cases e3:k3=0
   ·subst e3;go_wp2_with fail
    refine (zC r (B+3) _ _ (Rd.alloc HR3.out _) (by omega)).mono ?_;rintro e w4 ⟨k4,rfl,hk4,hR4,hb4⟩;obtain ⟨hk4a,hk4b⟩:=hk4 (by omega);have hz4:=hb4.size
    try simp at hz4
    have hx4:w.heap.size+1 < w4.heap.size:=(by omega);have hw4:w4.heap.size ≠ r:=(by omega);have A4:=O ((hb4.block w.heap.size (by first | omega | (simp;omega) | simp) hr0).trans (z0r A3.out _));have B4:=O ((hb4.block (w.heap.size+1) (by first | omega | (simp;omega) | simp) hr1).trans (z0r B3.out _));obtain ⟨⟨a40,a41⟩,af40,af41⟩:=z0f A4.out;obtain ⟨⟨b40,b41⟩,bf40,bf41⟩:=z0f B4.out;obtain ⟨v,hv⟩:=zi3 (-1) 5 1 k4 hk4a hk4b;have hcv:w4.cell? ⟨w3.heap.size,k4.toNat,none⟩=some (int i64 v):=(Joins.cell_of_block ((hb4.block w3.heap.size (by simp) hw3).trans (z3A _ _)) _).trans hv;clear hv;have HR4:Hid (Rd w4 r (B+4)):=hR4;have HB4:Hid (Bk r _ w4):=hb4;clear hR4 hb4 hk4 hz4;clear a30 a31 af30 af31 b30 b31 bf30 bf31 A3 B3 hw3;go_wp2;exact bodyPost_ret (v:=.agg #[int i64 (v),int i64 (0)]) (by simp [results,results135,go_sem,a40,a41]) rfl ⟨v,0,rfl,Rd.mono (B:=B+4) (Rd.set (Rd.set (Rd.set HR4.out (by dsimp only;omega) _) (by dsimp only;omega) _) (by dsimp only;omega) _) (by omega),(Bk.set (Bk.set (Bk.set (Bk.trans (Bk.alloc (Bk.trans (Bk.trans (Bk.trans (Bk.alloc (Bk.alloc (Bk.refl r w) _) _) HB1.out) HB2.out) HB3.out) _) HB4.out) (Or.inr (by dsimp only;omega)) _) (Or.inr (by dsimp only;omega)) _) (Or.inr (by dsimp only;omega)) _)⟩
   ·have e3':(k3 == 0)=false:=beq_eq_false_iff_ne.2 e3;go_wp2_with fail
    refine (zC r (B+3) _ _ (Rd.alloc HR3.out _) (by omega)).mono ?_;rintro e w4 ⟨k4,rfl,hk4,hR4,hb4⟩;obtain ⟨hk4a,hk4b⟩:=hk4 (by omega);have hz4:=hb4.size
    try simp at hz4
    have hx4:w.heap.size+1 < w4.heap.size:=(by omega);have hw4:w4.heap.size ≠ r:=(by omega);have A4:=O ((hb4.block w.heap.size (by first | omega | (simp;omega) | simp) hr0).trans (z0r A3.out _));have B4:=O ((hb4.block (w.heap.size+1) (by first | omega | (simp;omega) | simp) hr1).trans (z0r B3.out _));obtain ⟨⟨a40,a41⟩,af40,af41⟩:=z0f A4.out;obtain ⟨⟨b40,b41⟩,bf40,bf41⟩:=z0f B4.out;obtain ⟨v,hv⟩:=zcA (-1) 4 0 1 k4 hk4a hk4b;have hcv:w4.cell? ⟨w3.heap.size,k4.toNat,none⟩=some (int i64 v):=(Joins.cell_of_block ((hb4.block w3.heap.size (by simp) hw3).trans (z3A _ _)) _).trans hv;clear hv;have HR4:Hid (Rd w4 r (B+4)):=hR4;have HB4:Hid (Bk r _ w4):=hb4;clear hR4 hb4 hk4 hz4;clear a30 a31 af30 af31 b30 b31 bf30 bf31 A3 B3 hw3;go_wp2;exact bodyPost_ret (v:=.agg #[int i64 (0),int i64 (v)]) (by simp [results,results135,go_sem,a40,a41]) rfl ⟨0,v,rfl,Rd.mono (B:=B+4) (Rd.set (Rd.set (Rd.set HR4.out (by dsimp only;omega) _) (by dsimp only;omega) _) (by dsimp only;omega) _) (by omega),(Bk.set (Bk.set (Bk.set (Bk.trans (Bk.alloc (Bk.trans (Bk.trans (Bk.trans (Bk.alloc (Bk.alloc (Bk.refl r w) _) _) HB1.out) HB2.out) HB3.out) _) HB4.out) (Or.inr (by dsimp only;omega)) _) (Or.inr (by dsimp only;omega)) _) (Or.inr (by dsimp only;omega)) _)⟩
  ·have e2':(k2 == 0)=false:=beq_eq_false_iff_ne.2 e2;go_wp2;exact bodyPost_ret (v:=.agg #[int i64 (0),int i64 (0)]) (by simp [results,results135,go_sem,a20,a21]) rfl ⟨0,0,rfl,Rd.mono (B:=B+2) (Rd.set (Rd.set HR2.out (by dsimp only;omega) _) (by dsimp only;omega) _) (by omega),(Bk.set (Bk.set (Bk.trans (Bk.trans (Bk.alloc (Bk.alloc (Bk.refl r w) _) _) HB1.out) HB2.out) (Or.inr (by dsimp only;omega)) _) (Or.inr (by dsimp only;omega)) _)⟩
end
end Go.Proofs.YtggmjiddadjilahGreat
