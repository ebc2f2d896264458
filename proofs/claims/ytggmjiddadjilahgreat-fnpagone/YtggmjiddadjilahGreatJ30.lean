/-
  PROVED HERE: a reader of slices, row by row and line by line; slices that are put on a page read as those that they are put together of; so do all pieces of a table's body. Also: 7 more texts of the same proof.
-/
import Derived.Test.YtggmjiddadjilahGreatJ29
import Derived.Test.YtggmjiddadjilahGreatJ10
import Derived.Test.YtggmjiddadjilahGreatJ21
set_option maxRecDepth 1000000
set_option maxHeartbeats 40000000
open Go.Proofs.Tryz
namespace Go.Proofs.YtggmjiddadjilahGreat
open Value (int)
open IntKind (i64)
section
open Go.RowKit
structure Pos where
 row:Int
 line:Int
 seen:Bool
def z4s (hs:List Int) (p:Pos) (r:Int):Pos:=if p.seen=true/\r=p.row+1/\p.line=hs.getD p.row.toNat 0 then ⟨p.row+1,0,true⟩ else p
def okS (hs:List Int) (q:Pos) (s:zk):Prop:=s.r=q.row/\s.f=q.line/\s.f<=s.t/\s.t<=hs.getD q.row.toNat 0/\¬ (s.f=s.t/\0 < hs.getD q.row.toNat 0)
def z39 (hs:List Int) (p:Pos) (s:zk):Pos:=⟨(z4s hs p s.r).row,s.t,true⟩
def z1Q (hs:List Int) (p:Pos) (l:List zk):Pos:=l.foldl (z39 hs) p
def z1r (hs:List Int):Pos->List zk->Prop
 | _,[]=>True
 | p,s :: l=>okS hs (z4s hs p s.r) s/\z1r hs (z39 hs p s) l
theorem z2T (hs:List Int) (p:Pos) (a b:List zk):z1Q hs p (a ++ b)=z1Q hs (z1Q hs p a) b:=by simp [z1Q]
theorem z28 (hs:List Int):∀ (a:List zk) (p:Pos) (b:List zk),z1r hs p (a ++ b) ↔ z1r hs p a/\z1r hs (z1Q hs p a) b
 | [],p,b=>by simp [z1r,z1Q]
 | s :: a,p,b=>by
  rw [List.cons_append,z1r,z1r,z28 hs a,and_assoc];exact Iff.rfl
theorem z74 (hs:List Int) (p:Pos) (s:zk):z1r hs p [s] ↔ okS hs (z4s hs p s.r) s:=by simp [z1r]
theorem z6b (hs:List Int) (p:Pos) (s:zk):z1Q hs p [s]=z39 hs p s:=rfl
theorem z5M {hs:List Int}:∀ {l:List zk} {p:Pos},z1r hs p l->∀ s ∈ l,s.f<=s.t
 | [],_,_,s,h=>by cases h
 | x :: l,p,h,s,hs'=>by
  rcases List.mem_cons.1 hs' with rfl | hm
  ·exact h.1.2.2.1
  ·exact z5M h.2 s hm
theorem z53:∀ {l:List zk},(∀ s ∈ l,s.f<=s.t)->0<=zu l
 | [],_=>by simp [zu]
 | x :: l,h=>by
  have:=z53 (l:=l) (λs hs=>h s (List.mem_cons_of_mem _ hs));have:=h x (by simp);have e:zu (x :: l)=x.t - x.f+zu l:=(by simp [zu]);omega
theorem zgH {hs:List Int} {p:Pos} {a:List zk} {l s:zk} (h:z1r hs p (a ++ [l] ++ [s])) (e:l.r=s.r) :
  l.t=s.f/\z1r hs p (a ++ [⟨l.r,l.f,s.t⟩])/\z1Q hs p (a ++ [⟨l.r,l.f,s.t⟩])=z1Q hs p (a ++ [l] ++ [s]):=by
 rw [z28,z28,z74,z74,z2T,z6b] at h;obtain ⟨⟨h1,h2⟩,h3⟩:=h;rw [z28,z74,z2T,z2T,z2T,z6b,z6b,z6b];generalize z1Q hs p a=q at h2 h3 |-;obtain ⟨a1,a2,a3,a4,a5⟩:=h2
 have e1:z4s hs (z39 hs q l) s.r=z39 hs q l:=by
  unfold z4s;rw [if_neg];rintro ⟨_,h,_⟩;rw [z39] at h;simp only at h;rw [<-a1] at h;omega
 rw [e1] at h3;obtain ⟨b1,b2,b3,b4,b5⟩:=h3;simp only [z39] at b1 b2 b4 b5;refine ⟨b2.symm,⟨h1,⟨a1,a2,by simp only;omega,b4,?_⟩⟩,?_⟩
 ·rintro ⟨h4,h5⟩;simp only at h4;exact b5 ⟨by omega,h5⟩
 ·show (⟨(z4s hs q l.r).row,s.t,true⟩:Pos)=⟨(z4s hs (z39 hs q l) s.r).row,s.t,true⟩;rw [e1];rfl
theorem z6E (a:List zk) (l s:zk):z2o (a ++ [l]) s=if l.r=s.r then a ++ [⟨l.r,l.f,s.t⟩] else a ++ [l] ++ [s]:=by simp [z2o]
theorem zip {hs:List Int} {p:Pos} {page:List zk} {s:zk} (h:z1r hs p (page ++ [s])) :
  z1r hs p (z2o page s)/\z1Q hs p (z2o page s)=z1Q hs p (page ++ [s])/\zu (z2o page s)=zu page+(s.t - s.f):=by
 rcases List.eq_nil_or_concat page with rfl | ⟨a,l,rfl⟩
 ·exact ⟨h,rfl,by simp [z2o,zu]⟩
 ·rw [List.concat_eq_append] at h |-;rw [z6E];by_cases e:l.r=s.r
  ·rw [if_pos e];obtain ⟨h1,h2,h3⟩:=zgH h e;refine ⟨h2,h3,?_⟩;rw [z1D,z1D,z3b,z3b];simp only;omega
  ·rw [if_neg e];exact ⟨h,rfl,by rw [z1D,z3b]⟩
theorem zcN {hs:List Int} {p:Pos}:∀ {piece page:List zk},z1r hs p (page ++ piece)->z1r hs p (z0b page piece)/\z1Q hs p (z0b page piece)=z1Q hs p (page ++ piece)/\zu (z0b page piece)=zu page+zu piece
 | [],page,h=>by
  rw [List.append_nil] at h |-;exact ⟨h,rfl,by simp [z0b,zu]⟩
 | s :: l,page,h=>by
  have e:page ++ s :: l=page ++ [s] ++ l:=(by simp);rw [e,z28] at h;obtain ⟨h1,h2⟩:=h;obtain ⟨a1,a2,a3⟩:=zip h1;rw [<-a2] at h2;have h3:z1r hs p (z2o page s ++ l):=(z28 hs _ _ _).2 ⟨a1,h2⟩;obtain ⟨b1,b2,b3⟩:=zcN h3;refine ⟨b1,?_,?_⟩
  ·show z1Q hs p (z0b (z2o page s) l)=_;rw [b2,e,z2T,z2T,a2]
  ·show zu (z0b (z2o page s) l)=_;have:zu (s :: l)=s.t - s.f+zu l:=(by simp [zu]);omega
theorem zbq {hs:List Int} {p:Pos}:∀ {ps:List (List zk)} {page:List zk},z1r hs p (page ++ ps.flatten)->z1r hs p (ps.foldl z0b page)/\z1Q hs p (ps.foldl z0b page)=z1Q hs p (page ++ ps.flatten)/\zu (ps.foldl z0b page)=zu page+zu ps.flatten
 | [],page,h=>by
  rw [List.flatten_nil,List.append_nil] at h |-;exact ⟨h,rfl,by simp [zu]⟩
 | x :: l,page,h=>by
  rw [List.flatten_cons,<-List.append_assoc,z28] at h;obtain ⟨h1,h2⟩:=h;obtain ⟨a1,a2,a3⟩:=zcN h1;rw [<-a2] at h2;obtain ⟨b1,b2,b3⟩:=zbq ((z28 hs _ _ _).2 ⟨a1,h2⟩);rw [List.foldl_cons];refine ⟨b1,?_,?_⟩
  ·rw [b2,z2T,List.flatten_cons,<-List.append_assoc,z2T,a2]
  ·rw [b3,a3,List.flatten_cons,z1D];omega
theorem ziq (page:List zk) (s:zk):(z2o page s).length<=page.length+1:=by
 rcases List.eq_nil_or_concat page with rfl | ⟨a,l,rfl⟩
 ·simp [z2o]
 ·rw [List.concat_eq_append,z6E]
  split <;> simp
theorem zcO:∀ (piece page:List zk),(z0b page piece).length<=page.length+piece.length
 | [],page=>by simp [z0b]
 | s :: l,page=>by
  have h1:=zcO l (z2o page s);have h2:=ziq page s;show (z0b (z2o page s) l).length<=_;rw [List.length_cons];omega
theorem zbr:∀ (ps:List (List zk)) (page:List zk),(ps.foldl z0b page).length<=page.length+ps.flatten.length
 | [],page=>by simp
 | x :: l,page=>by
  have h1:=zbr l (z0b page x);have h2:=zcO x page;rw [List.foldl_cons,List.flatten_cons,List.length_append];omega
theorem z8f (r f:Int) (k:Nat):z0o r f (k+1)=z0o r f k ++ [[⟨r,f+k,f+k+1⟩]]:=by simp [z0o,List.range_succ]
def z4g (hs:List Int) (p:Pos) (a:Nat):Prop:=p=⟨a,0,false⟩\/(1<=a/\p=⟨(a:Int) - 1,hs.getD (a - 1) 0,true⟩)
theorem zgI {hs:List Int} {p:Pos} {a:Nat} (h:z4g hs p a):(z4s hs p a).row=a/\(z4s hs p a).line=0:=by
 rcases h with rfl | ⟨h1,rfl⟩
 ·unfold z4s;simp
 ·unfold z4s;have e:((a:Int) - 1).toNat=a - 1:=(by omega);rw [if_pos ⟨rfl,by simp only;omega,by simp only [e]⟩];exact ⟨by simp only;omega,rfl⟩
theorem z96 {hs:List Int} {p:Pos} {a:Nat} (h:z4g hs p a) {t:Int} (h0:0<=t) (h1:t<=hs.getD a 0) (h2:¬ (0=t/\0 < hs.getD a 0)):z1r hs p [⟨a,0,t⟩]/\z1Q hs p [⟨a,0,t⟩]=⟨a,t,true⟩:=by
 obtain ⟨e1,e2⟩:=zgI h;refine ⟨(z74 hs _ _).2 ⟨e1.symm,e2.symm,h0,?_,?_⟩,?_⟩
 ·rw [e1,Int.toNat_natCast];exact h1
 ·rw [e1,Int.toNat_natCast];exact h2
 ·rw [z6b,z39];simp only [e1]
theorem zbs {hs:List Int} (hb:∀ x ∈ hs,0<=x):∀ (n a:Nat) (p:Pos),z4g hs p a->z1r hs p (zT hs a n)/\z4g hs (z1Q hs p (zT hs a n)) (a+n)
 | 0,a,p,h=>⟨trivial,h⟩
 | n+1,a,p,h=>by
  have h0:0<=hs.getD a 0:=by
   by_cases ha:a < hs.length
   ·exact hb _ (by simp [List.getD,ha])
   ·simp [List.getD,ha]
  obtain ⟨h1,h2⟩:=z96 h h0 (Int.le_refl _) (by omega);have hr:z4g hs ⟨(a:Int),hs.getD a 0,true⟩ (a+1):=.inr ⟨by omega,by simp⟩;obtain ⟨i1,i2⟩:=zbs hb n (a+1) _ hr;rw [<-h2] at i1 i2;rw [zT];have e:a+1+n=a+(n+1):=(by omega);rw [e] at i2;exact ⟨(z28 hs [_] p _).2 ⟨h1,i1⟩,i2⟩
theorem zbt {hs:List Int} {a:Nat}:∀ (n:Nat) (f:Int),f+n<=hs.getD a 0->z1r hs ⟨a,f,true⟩ (z0o a f n).flatten/\z1Q hs ⟨a,f,true⟩ (z0o a f n).flatten=⟨a,f+n,true⟩
 | 0,f,_=>by simp [z0o,z1r,z1Q]
 | n+1,f,h=>by
  rw [z4u,List.flatten_cons]
  have e1:z4s hs ⟨a,f,true⟩ a=⟨a,f,true⟩:=by
   unfold z4s;rw [if_neg];rintro ⟨_,h,_⟩;simp only at h;omega
  have h1:z1r hs ⟨a,f,true⟩ [⟨a,f,f+1⟩]:=by
   rw [z74];simp only;rw [e1];exact ⟨rfl,rfl,by simp only;omega,by show f+1<=hs.getD (a:Int).toNat 0;rw [Int.toNat_natCast];omega,by simp only;omega⟩
  have h2:z1Q hs ⟨a,f,true⟩ [⟨a,f,f+1⟩]=⟨a,f+1,true⟩:=by
   rw [z6b,z39];simp only;rw [e1]
  obtain ⟨i1,i2⟩:=zbt (hs:=hs) (a:=a) n (f+1) (by omega);rw [z28,z2T,h2,i2];refine ⟨⟨h1,i1⟩,?_⟩
  congr 1
  omega
theorem zjv {hs:List Int} {p:Pos} {a:Nat} (h:z4g hs p a) (h0:0 < hs.getD a 0):z1r hs p (z0o a 0 (hs.getD a 0).toNat).flatten/\z4g hs (z1Q hs p (z0o a 0 (hs.getD a 0).toNat).flatten) (a+1):=by
 obtain ⟨m,hm⟩:∃ m:Nat,hs.getD a 0=((m+1:Nat):Int):=⟨(hs.getD a 0).toNat - 1,by omega⟩;have e:(hs.getD a 0).toNat=m+1:=(by omega);rw [e,z4u,List.flatten_cons];obtain ⟨h1,h2⟩:=z96 (t:=1) h (by omega) (by omega) (by omega);obtain ⟨i1,i2⟩:=zbt (hs:=hs) (a:=a) m 1 (by omega);have e2:(0:Int)+1=1:=rfl;rw [e2,z28,z2T,h2,i2];refine ⟨⟨h1,i1⟩,.inr ⟨by omega,?_⟩⟩;have e3:a+1 - 1=a:=(by omega);rw [e3,hm]
 congr 1 <;> omega
theorem zka {t:T} {hs:List Int} (hb:∀ x ∈ hs,0<=x) {a b:Nat} (hab:a < b) (hp:z0j t (a:Int)=1) {p:Pos} (h:z4g hs p a):z1r hs p (z1A t hs a b).flatten/\z4g hs (z1Q hs p (z1A t hs a b).flatten) b:=by
 by_cases h2:(b - a=1/\(t.rows.getD a dR).whole=false)/\0 < hs.getD a 0
 ·rw [zaM hp h2];have e:b=a+1:=(by omega);rw [e];exact zjv h h2.2
 ·rw [z88 hp h2];have e:b=a+(b - a):=(by omega);have:=zbs hb (b - a) a p h;rw [<-e] at this;rw [List.flatten_cons,List.flatten_nil,List.append_nil];exact this
theorem za0 {t:T} (hD:z0g t) (hok:zF t=true) (q:Int) (hq:q=t.head\/q=(t.rows.length:Int) - t.foot):z2f (Z t).cells q=false:=by
 have hl:=z3S hok hD;have hbb:=z0R hok
 have h3:t.foot<=(t.rows.length:Int) - t.head:=by
  simp only [zF,z2e,zM,Bool.and_eq_true,decide_eq_true_eq] at hok;exact hok.2.1.2.2
 rw [z2z hok]
 cases hc:z2f (zU t) q with
 | false=>rfl
 | true =>
  exfalso
  obtain ⟨x,hx,ho⟩:=List.any_eq_true.1 hc;obtain ⟨k,hk,rfl⟩:=List.mem_iff_getElem.1 hx;obtain ⟨r,j,hr,hj,he⟩:=(z8K hl hk).ex;have e:(zU t).getD k dG=(zU t)[k]:=(by simp [List.getD,hk]);rw [e] at he;rw [he] at ho;simp only [z2a,z1y,z1q,z4r,Bool.and_eq_true] at ho;unfold z03 at ho;obtain ⟨h1,h2⟩:=ho;replace h1:=of_decide_eq_true h1;replace h2:=of_decide_eq_true h2
  rcases hq with rfl | rfl
  ·rw [if_pos h1] at h2;omega
  ·by_cases h4:(r:Int) < t.head
   ·rw [if_pos h4] at h2;omega
   ·rw [if_neg h4,if_neg (by omega)] at h2;omega
theorem z6o {t:T} (hok:zF t=true):∃ H E:Nat,t.head=H/\(t.rows.length:Int) - t.foot=E/\H<=E/\E<=t.rows.length/\1<=t.rows.length/\t.rows.length<=8:=by
 have hbb:=z0R hok
 have h3:t.foot<=(t.rows.length:Int) - t.head:=by
  simp only [zF,z2e,zM,Bool.and_eq_true,decide_eq_true_eq] at hok;exact hok.2.1.2.2
 exact ⟨t.head.toNat,((t.rows.length:Int) - t.foot).toNat,by omega,by omega,by omega,by omega,hbb.1.1,hbb.1.2⟩
theorem z9m {gs:List GC} {R x:Nat} (hx:x<=R) (h:x < R->z2f gs (x:Int)=false):x ∈ z0l gs R:=by
 rcases Nat.lt_or_eq_of_le hx with h1 | rfl
 ·refine List.mem_append.2 (.inl (List.mem_filter.2 ⟨List.mem_range.2 h1,?_⟩));rw [h h1];rfl
 ·exact List.mem_append.2 (.inr (List.mem_singleton.2 rfl))
theorem zbu {gs:List GC} {R k x:Nat} (hk:k+1 < (z0l gs R).length) (hx:x ∈ z0l gs R) (h:(z0l gs R).getD k 0 < x):(z0l gs R).getD (k+1) 0<=x:=by
 obtain ⟨j,hj,rfl⟩:=List.mem_iff_getElem.1 hx;have h1:(z0l gs R).getD k 0=(z0l gs R)[k]:=(by simp [List.getD,show k < (z0l gs R).length by omega]);have h2:(z0l gs R).getD (k+1) 0=(z0l gs R)[k+1]:=(by simp [List.getD,hk]);rw [h1] at h;rw [h2];have hp:=List.pairwise_iff_getElem.1 (z87 gs R)
 rcases Nat.lt_or_ge k j with h3 | h3
 ·rcases Nat.lt_or_eq_of_le (show k+1<=j by omega) with h4 | h4
  ·have:=hp (k+1) j hk hj h4;omega
  ·subst h4;exact lR
 ·rcases Nat.lt_or_eq_of_le h3 with h4 | h4
  ·have:=hp j k hj (by omega) h4;omega
  ·subst h4;omega
theorem zfd {t:T} (hD:z0g t) (hok:zF t=true):z2f (Z t).cells 0=false:=by
 rw [z2z hok]
 cases hc:z2f (zU t) 0 with
 | false=>rfl
 | true =>
  exfalso
  obtain ⟨x,hx,ho⟩:=List.any_eq_true.1 hc;have:=(z3Y (z3S hok hD) hx).1.1;simp only [z2a,Bool.and_eq_true,decide_eq_true_eq] at ho;omega
theorem zfe {t:T} (hD:z0g t) (hok:zF t=true):(z0l (Z t).cells t.rows.length).getD 0 0=0:=by
 have hb:=z0R hok;obtain ⟨n,hn⟩:∃ n,t.rows.length=n+1:=Nat.exists_eq_succ_of_ne_zero (by omega);have hm:(0:Nat) ∈ z0l (Z t).cells t.rows.length:=z9m (by omega) (λ_=>zfd hD hok);obtain ⟨j,hj,e⟩:=List.mem_iff_getElem.1 hm;have hl:0 < (z0l (Z t).cells t.rows.length).length:=(by omega);have h1:(z0l (Z t).cells t.rows.length).getD 0 0=(z0l (Z t).cells t.rows.length)[0]:=(by simp [List.getD,hl]);rw [h1]
 rcases Nat.eq_zero_or_pos j with rfl | h2
 ·exact e
 ·have:=List.pairwise_iff_getElem.1 (z87 (Z t).cells t.rows.length) 0 j hl hj h2;omega
theorem z8g (gs:List GC) (R:Nat):(z0l gs R).getD ((zQ gs R).length) 0=R:=by
 have e:(zQ gs R).length=((List.range R).filter (λr:Nat=>!z2f gs (r:Int))).length:=(by simp [zQ]);rw [e,z0l];simp [List.getD]
def z40 (H E x:Nat):Nat:=max H (min x E)
theorem zgJ {t:T} (hok:zF t=true) {H E:Nat} (hH:t.head=H) (hE:(t.rows.length:Int) - t.foot=E) {a:Nat} (ha:a < t.rows.length):z0j t (a:Int)=1 ↔ H<=a/\a < E:=by
 unfold z0j;rw [if_pos ⟨hok,by unfold zM;exact decide_eq_true (by omega)⟩,hH,hE];by_cases h1:(a:Int) < (H:Int)
 ·rw [if_pos h1];constructor
  ·intro h;cases h
  ·intro h;omega
 ·rw [if_neg h1];by_cases h2:(E:Int)<=(a:Int)
  ·rw [if_pos h2];constructor
   ·intro h;cases h
   ·intro h;omega
  ·rw [if_neg h2];constructor
   ·intro _;omega
   ·intro _;rfl
theorem zbv {t:T} (hD:z0g t) (hok:zF t=true) {hs:List Int} (hb:∀ x ∈ hs,0<=x) {H E:Nat} (hH:t.head=H) (hE:(t.rows.length:Int) - t.foot=E) (hHE:H<=E) (hER:E<=t.rows.length) :
  ∀ k,k < (z0l (Z t).cells t.rows.length).length->z1r hs ⟨t.head,0,false⟩ (z1h t hs (z0l (Z t).cells t.rows.length) k).flatten/\z4g hs (z1Q hs ⟨t.head,0,false⟩ (z1h t hs (z0l (Z t).cells t.rows.length) k).flatten) (z40 H E ((z0l (Z t).cells t.rows.length).getD k 0))
 | 0,_=>by
  rw [z1h,zfe hD hok,List.flatten_nil];refine ⟨trivial,.inl ?_⟩;rw [hH];show (⟨(H:Int),0,false⟩:Pos)=_
  congr 1
  unfold z40;omega
 | k+1,hk=>by
  obtain ⟨h1,h2⟩:=zbv hD hok hb hH hE hHE hER k (by omega);obtain ⟨s1,s2⟩:=z3T hk;have hmH:H ∈ z0l (Z t).cells t.rows.length:=z9m (by omega) (λ_=>za0 hD hok _ (.inl hH.symm));have hmE:E ∈ z0l (Z t).cells t.rows.length:=z9m hER (λ_=>za0 hD hok _ (.inr hE.symm));have nH:=zbu hk hmH;have nE:=zbu hk hmE;rw [z1h,List.flatten_append,z28,z2T];generalize z1Q hs ⟨t.head,0,false⟩ (z1h t hs (z0l (Z t).cells t.rows.length) k).flatten=q at h2 |-;generalize (z0l (Z t).cells t.rows.length).getD k 0=a at s1 h2 nH nE |-;generalize (z0l (Z t).cells t.rows.length).getD (k+1) 0=b at s1 s2 nH nE |-;have hp:=zgJ hok hH hE (a:=a) (by omega);by_cases h3:z0j t (a:Int)=1
  ·have h4:=hp.1 h3;have e1:z40 H E a=a:=(by unfold z40;omega)
   have e2:z40 H E b=b:=by
    have:=nE (by omega);unfold z40;omega
   rw [e1] at h2;rw [e2];obtain ⟨i1,i2⟩:=zka hb s1 h3 h2;exact ⟨⟨h1,i1⟩,i2⟩
  ·have e:z40 H E a=z40 H E b:=by
    have h4:¬ (H<=a/\a < E):=λh=>h3 (hp.2 h);unfold z40;omega
   rw [zaL h3,List.flatten_nil,<-e];exact ⟨⟨h1,trivial⟩,h2⟩
theorem z7t {t:T} (hD:z0g t) (hok:zF t=true) {hs:List Int} (hb:∀ x ∈ hs,0<=x) {H E:Nat} (hH:t.head=H) (hE:(t.rows.length:Int) - t.foot=E) (hHE:H<=E) (hER:E<=t.rows.length) :
  z1r hs ⟨t.head,0,false⟩ (z0B t hs).flatten/\z4g hs (z1Q hs ⟨t.head,0,false⟩ (z0B t hs).flatten) E:=by
 have:=zbv hD hok hb hH hE hHE hER (zQ (Z t).cells t.rows.length).length (by rw [z5o];omega);rw [z8g] at this;have e:z40 H E t.rows.length=E:=(by unfold z40;omega);rw [e] at this;exact this
theorem zbw {hs:List Int} (hb:∀ x ∈ hs,0<=x/\x<=1000):∀ n a,zu (zT hs a n)<=1000 * n
 | 0,a=>by simp [zT,zu]
 | n+1,a=>by
  have h0:hs.getD a 0<=1000:=by
   by_cases ha:a < hs.length
   ·exact (hb _ (by simp [List.getD,ha])).2
   ·simp [List.getD,ha]
  have:=zbw hb n (a+1);have e:zu (zT hs a (n+1))=hs.getD a 0 - 0+zu (zT hs (a+1) n):=(by simp [zT,zu]);omega
theorem z9n (r f:Int):∀ n,zu (z0o r f n).flatten=n
 | 0=>by simp [z0o,zu]
 | n+1=>by
  rw [z8f,List.flatten_append,z1D,z9n r f n,List.flatten_cons,List.flatten_nil,List.append_nil,z3b];simp only;omega
theorem zbx (r f:Int):∀ n,(z0o r f n).flatten.length=n
 | 0=>rfl
 | n+1=>by
  rw [z8f,List.flatten_append,List.length_append,zbx r f n];rfl
theorem zkK {t:T} {hs:List Int} (hb:∀ x ∈ hs,0<=x/\x<=1000) {a b:Nat} (hab:a < b):zu (z1A t hs a b).flatten<=1000 * ((b:Int) - a)/\(z1A t hs a b).flatten.length<=1000 * (b - a):=by
 unfold z1A
 split
 ·split
  ·have hm:hs.getD a 0<=1000:=by
    by_cases ha:a < hs.length
    ·exact (hb _ (by simp [List.getD,ha])).2
    ·simp [List.getD,ha]
   rw [z9n,zbx];omega
  ·have:=zbw hb (b - a) a;rw [List.flatten_cons,List.flatten_nil,List.append_nil,z1b];omega
 ·simp [zu];omega
theorem zcP {t:T} {hs:List Int} (hb:∀ x ∈ hs,0<=x/\x<=1000) {gs:List GC} {R:Nat}:∀ k,k < (z0l gs R).length->zu (z1h t hs (z0l gs R) k).flatten<=1000 * (z0l gs R).getD k 0/\(z1h t hs (z0l gs R) k).flatten.length<=1000 * (z0l gs R).getD k 0
 | 0,_=>by
  simp [z1h,zu];omega
 | k+1,hk=>by
  have ih:=zcP (t:=t) hb (gs:=gs) (R:=R) k (by omega);obtain ⟨s1,_⟩:=z3T hk;have h1:=zkK (t:=t) hb s1;rw [z1h,List.flatten_append,z1D,List.length_append];omega
theorem zeA {t:T} {hs:List Int} (hb:∀ x ∈ hs,0<=x/\x<=1000):zu (z0B t hs).flatten<=1000 * t.rows.length/\(z0B t hs).flatten.length<=1000 * t.rows.length:=by
 have:=zcP (t:=t) hb (gs:=(Z t).cells) (R:=t.rows.length) (zQ (Z t).cells t.rows.length).length (by rw [z5o];omega);rw [z8g] at this;exact this
theorem z4h {t:T} (hD:z0g t) (hok:zF t=true) {hs:List Int} (hb:∀ x ∈ hs,0<=x/\x<=1000) {A B C:List (List zk)} (h:z0B t hs=A ++ B ++ C) :
  (0<=zu (B.foldl z0b [])/\zu (B.foldl z0b [])<=1000000)/\(B.foldl z0b []).length<=50000/\zu (B.foldl z0b [])=zu B.flatten:=by
 obtain ⟨H,E,hH,hE,h1,h2,h3,h4⟩:=z6o hok;have hr:=(z7t hD hok (λx hx=>(hb x hx).1) hH hE h1 h2).1;have hh:=zeA (t:=t) hb;rw [h,List.flatten_append,List.flatten_append] at hr hh;rw [z28,z28] at hr;obtain ⟨⟨r1,r2⟩,r3⟩:=hr;have n1:=z53 (z5M r1);have n2:=z53 (z5M r2);have n3:=z53 (z5M r3);rw [z1D,z1D,List.length_append,List.length_append] at hh;have r4:=zbq (page:=[]) (by simpa using r2);have l4:=zbr B [];rw [r4.2.2];simp only [List.length_nil] at l4;have e0:zu []=0:=rfl;omega
theorem zgK {t:T} (hD:z0g t) (hok:zF t=true) {hs:List Int} (hb:∀ x ∈ hs,0<=x/\x<=1000) {p:List zk} (hp:p ∈ z0B t hs):(0<=zu p/\zu p<=1000000)/\p.length<=50000:=by
 obtain ⟨A,C,e⟩:=List.append_of_mem hp;obtain ⟨H,E,hH,hE,h1,h2,h3,h4⟩:=z6o hok;have hr:=(z7t hD hok (λx hx=>(hb x hx).1) hH hE h1 h2).1;have hh:=zeA (t:=t) hb;rw [e,List.flatten_append,List.flatten_cons] at hr hh;rw [z28,z28] at hr;obtain ⟨r1,r2,r3⟩:=hr;have n1:=z53 (z5M r1);have n2:=z53 (z5M r2);have n3:=z53 (z5M r3);rw [z1D,z1D,List.length_append,List.length_append] at hh;omega
theorem zkh:(prog.info? 9).map (λi=>(i.zero,i.size,i.bytes))=some (some (Value.string ⟨#[]⟩),1,16):=by kernel_rfl
theorem zd8 {s:ByteArray} {j k:Nat} (hj:j<=k) (hk:k < s.size):s.extract j k ++ ⟨#[s[k]]⟩=s.extract j (k+1):=by
 apply Go.WideShapes.bytes_inj;rw [Joins.data_append,ByteArray.data_extract,ByteArray.data_extract];have hk':k < s.data.size:=hk;rw [Array.toList_extract,Array.toList_extract];have e:s[k]=s.data.toList[k]'(by simpa using hk'):=rfl;rw [e];simp only [List.extract_eq_take_drop];rw [show k+1 - j=(k - j)+1 by omega,List.take_succ_eq_append_getElem (by rw [List.length_drop];simp;omega),List.getElem_drop];simp [show j+(k - j)=k by omega]
theorem zjF (s:ByteArray) (hok:z0u s=true) (hz:0 < s.size) (w:World) :
  Calls prog 140 #[.string s] w λe w'=>∃ v,e=.returned v/\w'.ownsRow w.heap.size 9 1 v (z0v s 0).length ((z0v s 0).map Value.string)/\Below w.heap.size w w':=by
 obtain ⟨i0,hi,hz0,hz1,hz2⟩:=info_parts zkh;have h30:s.size<=30:=((z2B s).1 hok).1;go_enter func140,ntmps140;go_wp2_with fail
 go_loopw [3,4,5] (λo c i W=>∃ (k j:Nat) (out:List ByteArray),k<=s.size/\i=int i64 k/\c=.string (s.extract j k)/\j<=k/\j < s.size/\Hid (∀ m,j<=m->m < k->ch s m ≠ 32)/\Hid (z6J s j)/\Hid (z0v s 0=out ++ z0v s j)/\Hid (W.ownsRow w.heap.size 9 1 o out.length (out.map Value.string))/\Hid (Below w.heap.size w W)) (λ_ _ i _=>s.size - (intOf i).toNat)
 case atStart=>exact ⟨0,0,[],nZ,rfl,congrArg Value.string (by rw [ByteArray.extract_same];rfl),lR,hz,λm h1 h2=>absurd h2 (Nat.not_lt_zero _),z7B hok,(List.nil_append _).symm,World.ownsRow_made w #[] 0 lR nZ rfl,ze bR _⟩
 case round =>
  obtain ⟨k,j,out,hk,rfl,rfl,hj,hjk,HN,HS,HO,HR,HB⟩:=hrel;have hol:out.length<=s.size:=(by have:=z5Q s 0;rw [HO.out] at this;simp at this;omega);by_cases hlt:k < s.size
  ·have HC:Hid (ch s k=(s[k].toNat:Int)):=z9I hlt;by_cases hc:(s[k].toNat:Int)=32
   ·have hc':((s[k].toNat:Int) == 32)=true:=beq_iff_eq.2 hc;go_wp2_with (at_builtin;refine wpList_append_own _ rfl _ _ 93 rfl w.heap.size 9 i0 (.string ⟨#[]⟩) 1 16 underlying93 hi hz0 hz1 hz2 rfl (by decide) _ _ _ rfl (HR.out.alloc _) ⟨wr.heap.size,0,none⟩ 1 1 [.string (s.extract j k)] rfl rfl ?c1 ?c2 ?c3 ?c4 ?c5 ?_)
    case c1 =>
     intro i u hi
     match i,hi with
     | 0,hi=>simp at hi;subst hi;simp [Addr.add]
    case c2=>intro u hu;simp at hu;subst hu;rfl
    case c3=>unfold maxLen;omega
    case c4=>omega
    case c5=>have:=HB.out.size;simp;omega
    intro v' w2 hown' hgrow' _;have HB2:=O ((ze HB.out (.cells #[.string (s.extract j k)] 9)).grown hgrow' (by have:=HB.out.size;simp;omega) (λb hb=>(HR.out.lt b hb).1));have HE:Hid (z0Y s j=k):=zaW HN.out hj (Nat.le_of_lt hlt) (λ_=>HC.out.trans hc)
    have hk1:k+1 < s.size:=by
     have hg:=((z2B s).1 hok).2 k hlt;simp [z1x,HC.out.trans hc] at hg;omega
    have HW2:Hid (z0v s 0=(out ++ [s.extract j k]) ++ z0v s (k+1)):=by
     show _=_;rw [HO.out,z43 hjk,HE.out];simp
    have HS2:Hid (z6J s (k+1)):=by
     have:=(z7C hok hjk HS.out).2.2.1;rw [HE.out] at this;exact this
    have HR2:=O hown';obtain ⟨g',cap',rfl⟩:=Joins.ownsRow_form hown' (by omega);clear hown' hgrow' HR HB;go_wp2;go_roundw
    case rel=>exact ⟨k+1,k+1,out ++ [s.extract j k],by omega,by go_num,congrArg Value.string (by rw [ByteArray.extract_same];rfl),lR,hk1,λm h1 h2=>absurd h2 (by omega),HS2,HW2,by rw [List.length_append,List.map_append];exact HR2,HB2⟩
    case measure=>simp [intOf];omega
   ·have hc':((s[k].toNat:Int) == 32)=false:=beq_eq_false_iff_ne.2 hc
    have hcv:(convert 22 9 (.slice (some ⟨wr.heap.size,0,none⟩) 1 1)).run prog (wr.alloc (.cells #[.int .u8 (s[k].toNat:Int)] 5))=.ok (.string ⟨#[s[k]]⟩) (wr.alloc (.cells #[.int .u8 (s[k].toNat:Int)] 5)) :=
     run_convert_bytes_back _ _ _ 5 ⟨wr.heap.size,0,none⟩ 1 [s[k]] underlying22 underlying5 underlying9 (λi hi=>by
      match i,hi with
      | 0,_=>simp [Addr.add])
    have hz1:¬ 9223372036854775807 < (s.extract j k).size+1:=(by rw [ByteArray.size_extract];omega);have HX:=O (zd8 hj hlt);have hc2:ch s k ≠ 32:=λh=>hc (HC.out.symm.trans h)
    have HN2:Hid (∀ m,j<=m->m < k+1->ch s m ≠ 32):=λm h1 h2=>by
     rcases Nat.lt_or_eq_of_le (Nat.lt_succ_iff.1 h2) with h3 | rfl
     ·exact HN.out m h1 h3
     ·exact hc2
    go_wp2;go_roundw
    case rel=>exact ⟨k+1,j,out,by omega,by go_num,congrArg Value.string HX.out,by omega,hjk,HN2,HS,HO,HR.out.alloc _,ze HB.out _⟩
    case measure=>simp [intOf];omega
  ·obtain rfl:k=s.size:=by omega
   have HE:Hid (z0Y s j=s.size):=zaW HN.out hj lR (λh=>absurd h (Nat.lt_irrefl _))
   have HW2:Hid (z0v s 0=out ++ [s.extract j s.size]):=by
    show _=_;rw [HO.out,z43 hjk,HE.out,z3B (by omega)]
   go_wp2_with (at_builtin;refine wpList_append_own _ rfl _ _ 93 rfl w.heap.size 9 i0 (.string ⟨#[]⟩) 1 16 underlying93 hi hz0 hz1 hz2 rfl (by decide) _ _ _ rfl (HR.out.alloc _) ⟨wr.heap.size,0,none⟩ 1 1 [.string (s.extract j s.size)] rfl rfl ?c1 ?c2 ?c3 ?c4 ?c5 ?_)
   case c1 =>
    intro i u hi
    match i,hi with
    | 0,hi=>simp at hi;subst hi;simp [Addr.add]
   case c2=>intro u hu;simp at hu;subst hu;rfl
   case c3=>unfold maxLen;omega
   case c4=>omega
   case c5=>have:=HB.out.size;simp;omega
   intro v' w2 hown' hgrow' _;have HB2:=O ((ze HB.out (.cells #[.string (s.extract j s.size)] 9)).grown hgrow' (by have:=HB.out.size;simp;omega) (λb hb=>(HR.out.lt b hb).1));have HR2:=O hown';obtain ⟨g',cap',rfl⟩:=Joins.ownsRow_form hown' (by omega);clear hown' hgrow' HR HB;go_wp2;go_ret;exact ⟨_,rfl,by rw [HW2.out,List.length_append,List.map_append];exact HR2.out,HB2.out⟩
theorem zgZ {w:World} {B:Nat} {v:Value} {l:List ByteArray} (h:w.ownsRow B 9 1 v l.length (l.map Value.string)) {i:Nat} (hi:i < l.length) :
  ∃ g cap,v=.slice (some ⟨g,0,none⟩) l.length cap/\l.length<=cap/\cap<=maxLen/\w.cell? ⟨g,i,none⟩=some (.string l[i]):=by
 rcases h.2 with ⟨_,h0⟩ | ⟨g,cap,cur,hv,_,hg,h1,h2,h3,h4⟩
 ·omega
 ·refine ⟨g,cap,hv,h1,h2,?_⟩;rw [zf hg];have:cur.toList[i]?=(l.map Value.string)[i]?:=(by rw [<-h4,List.getElem?_take_of_lt (by omega)]);rw [<-Array.getElem?_toList,this];simp [hi]
theorem z8m (s:ByteArray) (hs:s.size<=maxLen) (w:World) :
  Calls prog 115 #[.string s] w λe w'=>∃ v,e=.returned v/\w'.ownsRow w.heap.size 9 1 v (zZ s).length ((zZ s).map (λx=>Value.string x.1))/\Below w.heap.size w w':=by
 by_cases hz:s.size=0
 ·have hw0:zZ s=[]:=by
   rw [zZ]
   split
   ·rw [z3B (by omega)];rfl
   ·rfl
  have hnil:=z9J hz;have HW:=O hw0;clear hw0;go_enter func115,ntmps115;go_wp2
  all_goals
   go_ret;exact ⟨_,rfl,by rw [HW.out];exact World.ownsRow_made w #[] 0 lR nZ rfl,ze bR _⟩
 ·have he:¬ s.toList=[]:=λh=>hz (zcs h);have he':s.toList.isEmpty=false:=(by simpa using he)
  cases hok:z0u s with
  | false =>
   have hw0:zZ s=[]:=(by rw [zZ,if_neg (by rw [hok];simp)]);go_enter func115,ntmps115;have HW:=O hw0;clear hw0;go_wp2_with (go_at_call 106;refine (z2H s w hs).mono ?_;rintro e w' ⟨rfl,rfl⟩;rw [hok])
   go_ret;exact ⟨_,rfl,by rw [HW.out];exact World.ownsRow_made w' #[] 0 lR nZ rfl,ze bR _⟩
  | true =>
   have hp:0 < s.size:=(by omega);go_enter func115,ntmps115
   go_wp2_with (first
    | (go_at_call 106;refine (z2H s _ hs).mono ?_;rintro e w' ⟨rfl,rfl⟩;rw [hok])
    | (go_at_call 140;refine (zjF s hok hp _).mono ?_;rintro e w' ⟨v,rfl,hv,hb⟩))
   go_ret;exact ⟨_,rfl,by rw [zbL hok,zgV hok];exact hv,hb⟩
theorem zeH {w:World} {B:Nat} {v:Value} {l:List W30} (h:w.ownsRow B 9 1 v l.length (l.map (λx=>Value.string x.1))) {i:Nat} (hi:i < l.length) :
  ∃ g cap,v=.slice (some ⟨g,0,none⟩) l.length cap/\l.length<=cap/\cap<=maxLen/\w.cell? ⟨g,i,none⟩=some (.string l[i].1):=by
 have e:l.map (λx=>Value.string x.1)=(l.map (λx=>x.1)).map Value.string:=(by rw [List.map_map];rfl);have el:l.length=(l.map (λx:W30=>x.1)).length:=(List.length_map ..).symm;rw [e,el] at h;obtain ⟨g,cap,h1,h2,h3,h4⟩:=zgZ h (i:=i) (by rw [List.length_map];exact hi);refine ⟨g,cap,by rw [el];exact h1,by rw [el];exact h2,h3,?_⟩;rw [h4];simp
theorem za9 {w:World} {B:Nat} {v:Value} {l:List W30} (h:w.ownsRow B 9 1 v l.length (l.map (λx=>Value.string x.1))):∃ a cap,v=.slice a l.length cap:=by
 rcases h.2 with ⟨hv,h0⟩ | ⟨g,cap,cur,hv,_⟩
 ·exact ⟨none,0,by rw [h0];exact hv⟩
 ·exact ⟨_,_,hv⟩
theorem zki:(prog.info? 9).map (λi=>(i.zero,i.size,i.bytes))=some (some (Value.string ⟨#[]⟩),1,16):=by kernel_rfl
def z5u (st:List ByteArray × ByteArray):Prop:=st.2.size=0->st.1=[]
theorem z8n (q:Int) (st:List ByteArray × ByteArray) (x:W30):z5u (z0c q st x.1):=by
 have hx:=x.2.1;intro h0;unfold z0c at h0 |-;by_cases h1:0 < st.2.size
 ·by_cases h2:q < (st.2.size:Int)+1+x.1.size
  ·rw [if_pos h1,if_pos h2] at h0;dsimp only at h0;omega
  ·rw [if_pos h1,if_neg h2] at h0;dsimp only at h0;rw [ByteArray.size_append] at h0;omega
 ·rw [if_neg h1] at h0;dsimp only at h0;omega
theorem zd9 (q:Int) (ws:List W30):z5u (z1f q ws):=by
 suffices h:∀ (l:List W30) (st:List ByteArray × ByteArray),z5u st->z5u (l.foldl (λst x=>z0c q st x.1) st) from h ws _ (λ_=>rfl)
 intro l
 induction l with
 | nil=>intro st h;exact h
 | cons x r ih=>intro st _;exact ih _ (z8n q st x)
def z57 (l:List ByteArray):ByteArray:=l.getD (l.length - 1) eS
theorem zjG {q:Int} {st:List ByteArray × ByteArray} (hok:z5u st) (h:(z01 st).length=0) (x:W30):z01 (z0c q st x.1)=z01 st ++ [x.1]:=by
 obtain ⟨lines,line⟩:=st;have h0:¬ 0 < line.size:=λh0=>by simp [z01,h0] at h
 have hl:lines=[]:=hok (show line.size=0 by omega);subst hl;have hx:=x.2.1;simp [z0c,z01,h0,hx]
theorem z9q {st:List ByteArray × ByteArray} (h:(z01 st).length ≠ 0) (hok:z5u st):0 < st.2.size/\z01 st=st.1 ++ [st.2]/\z57 (z01 st)=st.2:=by
 obtain ⟨lines,line⟩:=st
 have h0:0 < line.size:=by
  rcases Nat.eq_zero_or_pos line.size with h0 | h0
  ·have hl:lines=[]:=hok h0;subst hl;simp [z01,h0] at h
  ·exact h0
 have e:z01 (lines,line)=lines ++ [line]:=(by simp [z01,h0]);refine ⟨h0,e,?_⟩;rw [e];simp [z57,List.getD]
theorem zh0 {q:Int} {st:List ByteArray × ByteArray} (hok:z5u st) (h:(z01 st).length ≠ 0) (x:W30) (hq:q < ((z57 (z01 st)).size:Int)+1+x.1.size):z01 (z0c q st x.1)=z01 st ++ [x.1]:=by
 obtain ⟨h1,h2,h3⟩:=z9q h hok;rw [h3] at hq;have hx:=x.2.1;have e:z0c q st x.1=(st.1 ++ [st.2],x.1):=(by unfold z0c;rw [if_pos h1,if_pos hq]);rw [e,h2];simp [z01,hx]
theorem ziC {q:Int} {st:List ByteArray × ByteArray} (hok:z5u st) (h:(z01 st).length ≠ 0) (x:W30) (hq:¬ q < ((z57 (z01 st)).size:Int)+1+x.1.size):z01 (z0c q st x.1)=(z01 st).set ((z01 st).length - 1) (z57 (z01 st) ++ ⟨#[32]⟩ ++ x.1):=by
 obtain ⟨h1,h2,h3⟩:=z9q h hok;rw [h3] at hq |-;have hx:=x.2.1;have e:z0c q st x.1=(st.1,st.2 ++ ⟨#[32]⟩ ++ x.1):=(by unfold z0c;rw [if_pos h1,if_neg hq]);have hp:0 < (st.2 ++ ⟨#[32]⟩ ++ x.1).size:=(by rw [ByteArray.size_append];omega);rw [e,h2];simp only [z01,hp,if_true,List.length_append,List.length_cons,List.length_nil,Nat.add_sub_cancel,Nat.zero_add];rw [List.set_append_right _ _ lR];simp
theorem zbO (q:Int) (ws:List W30):(z01 (z1f q ws)).length<=ws.length+1/\(z57 (z01 (z1f q ws))).size<=31 * ws.length:=by
 obtain ⟨h1,h2⟩:=z7D q ws;constructor
 ·unfold z01
  split
  ·simp;omega
  ·omega
 ·rcases Nat.eq_zero_or_pos (z01 (z1f q ws)).length with h | h
  ·have:z01 (z1f q ws)=[]:=List.eq_nil_of_length_eq_zero h;rw [this];simp [z57,eS]
  ·rw [(z9q (by omega) (zd9 q ws)).2.2];exact h2
theorem zh1 {q:Int} {l:List W30} {k:Nat} (h:k < l.length):z1f q (l.take (k+1))=z0c q (z1f q (l.take k)) l[k].1:=by
 rw [List.take_succ_eq_append_getElem h,zbM]
theorem zda {w:World} {B:Nat} {v:Value} {l:List ByteArray} (h:z1I w B v l):w.ownsRow B 9 1 v l.length (l.map Value.string):=by
 refine ⟨by simp,?_⟩
 rcases h with ⟨hv,rfl⟩ | ⟨g,cap,cur,hv,hb,hg,h1,h2,h3,h4⟩
 ·exact Or.inl ⟨hv,rfl⟩
 ·refine Or.inr ⟨g,cap,cur,hv,hb,hg,h1,h2,by omega,?_⟩;apply List.ext_getElem?;intro i;rw [Nat.mul_one];by_cases hi:i < l.length
  ·rw [List.getElem?_take_of_lt hi,Array.getElem?_toList,h4 i hi];simp [List.getD,hi]
  ·rw [List.getElem?_eq_none (by simp;omega),List.getElem?_eq_none (by simp;omega)]
def zkN:List ByteArray->ByteArray
 | []=>⟨#[]⟩
 | [x]=>x
 | x :: y :: r=>x ++ ⟨#[32]⟩ ++ zkN (y :: r)
def zaX (a b:List ByteArray × ByteArray):Prop:=(z01 a).length < (z01 b).length\/(z01 a).length=(z01 b).length/\a.2.size<=b.2.size
theorem zaY {q:Int} {st:List ByteArray × ByteArray} (h:¬ 0 < st.2.size) (x:W30):(z01 (z0c q st x.1)).length=(z01 st).length+1/\(z0c q st x.1).2.size=x.1.size:=by
 have hx:=x.2.1;have e:z0c q st x.1=(st.1,x.1):=(by unfold z0c;rw [if_neg h]);rw [e];simp [z01,h,hx]
theorem z5O {q:Int} {st:List ByteArray × ByteArray} (h:0 < st.2.size) (x:W30) (hq:q < (st.2.size:Int)+1+x.1.size):(z01 (z0c q st x.1)).length=(z01 st).length+1/\(z0c q st x.1).2.size=x.1.size:=by
 have hx:=x.2.1;have e:z0c q st x.1=(st.1 ++ [st.2],x.1):=(by unfold z0c;rw [if_pos h,if_pos hq]);rw [e];simp [z01,h,hx]
theorem z6u {q:Int} {st:List ByteArray × ByteArray} (h:0 < st.2.size) (x:W30) (hq:¬ q < (st.2.size:Int)+1+x.1.size):(z01 (z0c q st x.1)).length=(z01 st).length/\(z0c q st x.1).2.size=st.2.size+1+x.1.size:=by
 have e:z0c q st x.1=(st.1,st.2 ++ ⟨#[32]⟩ ++ x.1):=(by unfold z0c;rw [if_pos h,if_neg hq]);have hz:(st.2 ++ ⟨#[32]⟩ ++ x.1).size=st.2.size+1+x.1.size:=(by rw [ByteArray.size_append,ByteArray.size_append];rfl);rw [e];refine ⟨?_,hz⟩;have hp:0 < (st.2 ++ ⟨#[32]⟩ ++ x.1).size:=(by omega);simp only [z01,hp,h,if_true,List.length_append,List.length_cons,List.length_nil]
theorem zdc {st:List ByteArray × ByteArray} (hok:z5u st):(¬ 0 < st.2.size->(z01 st).length=0)/\(0 < st.2.size->0 < (z01 st).length):=by
 refine ⟨λh=>?_,λh=>?_⟩
 ·have:st.1=[]:=hok (by omega);simp [z01,h,this]
 ·simp [z01,h]
theorem zfh {p q:Int} (hpq:p<=q) {a b:List ByteArray × ByteArray} (ha:z5u a) (hb:z5u b) (h:zaX a b) (x:W30):zaX (z0c q a x.1) (z0c p b x.1):=by
 have hx:=x.2.1;obtain ⟨za,za'⟩:=zdc ha;obtain ⟨zb,zb'⟩:=zdc hb;unfold zaX at h |-;by_cases h1:0 < a.2.size
 ·have c1:=za' h1
  have h2:0 < b.2.size:=by
   by_cases h2:0 < b.2.size
   ·exact h2
   ·have:=zb h2;omega
  by_cases qa:q < (a.2.size:Int)+1+x.1.size
  ·obtain ⟨e1,e2⟩:=z5O h1 x qa;by_cases qb:p < (b.2.size:Int)+1+x.1.size
   ·obtain ⟨e3,e4⟩:=z5O h2 x qb;omega
   ·obtain ⟨e3,e4⟩:=z6u h2 x qb;omega
  ·obtain ⟨e1,e2⟩:=z6u h1 x qa;by_cases qb:p < (b.2.size:Int)+1+x.1.size
   ·obtain ⟨e3,e4⟩:=z5O h2 x qb;omega
   ·obtain ⟨e3,e4⟩:=z6u h2 x qb;omega
 ·have c1:=za h1;obtain ⟨e1,e2⟩:=zaY (q:=q) h1 x;by_cases h2:0 < b.2.size
  ·have:=zb' h2;by_cases qb:p < (b.2.size:Int)+1+x.1.size
   ·obtain ⟨e3,e4⟩:=z5O h2 x qb;omega
   ·obtain ⟨e3,e4⟩:=z6u h2 x qb;omega
  ·obtain ⟨e3,e4⟩:=zaY (q:=p) h2 x;have:=zb h2;omega
theorem zkO {p q:Int} (hpq:p<=q) (ws:List W30):(z01 (z1f q ws)).length<=(z01 (z1f p ws)).length:=by
 suffices h:∀ (l:List W30) (a b:List ByteArray × ByteArray),z5u a->z5u b->zaX a b->zaX (l.foldl (λst x=>z0c q st x.1) a) (l.foldl (λst x=>z0c p st x.1) b) by
  have:=h ws ([],⟨#[]⟩) ([],⟨#[]⟩) (λ_=>rfl) (λ_=>rfl) (Or.inr ⟨rfl,lR⟩);unfold zaX at this;have e1:z1f q ws=ws.foldl (λst x=>z0c q st x.1) ([],⟨#[]⟩):=rfl;have e2:z1f p ws=ws.foldl (λst x=>z0c p st x.1) ([],⟨#[]⟩):=rfl;rw [e1,e2];omega
 intro l
 induction l with
 | nil=>intro a b _ _ h;exact h
 | cons x r ih=>intro a b ha hb h;exact ih _ _ (z8n q a x) (z8n p b x) (zfh hpq ha hb h x)
theorem zjH {q:Int} {n:Nat} (hq:q<=(n:Int)) (ws:List W30) (hw:∀ x ∈ ws,x.1.size<=n):∀ y ∈ z01 (z1f q ws),y.size<=n:=by
 suffices h:∀ (l:List W30) (st:List ByteArray × ByteArray),(∀ x ∈ l,x.1.size<=n)->(∀ y ∈ st.1,y.size<=n)->st.2.size<=n->(∀ y ∈ (l.foldl (λst x=>z0c q st x.1) st).1,y.size<=n)/\(l.foldl (λst x=>z0c q st x.1) st).2.size<=n by
  obtain ⟨h1,h2⟩:=h ws ([],⟨#[]⟩) hw (λy hy=>by cases hy) nZ;intro y hy;unfold z01 at hy
  split at hy
  ·rcases List.mem_append.1 hy with hy | hy
   ·exact h1 y hy
   ·simp at hy;subst hy;exact h2
  ·exact h1 y hy
 intro l
 induction l with
 | nil=>intro st _ h1 h2;exact ⟨h1,h2⟩
 | cons x r ih =>
  intro st hx h1 h2;have hx1:=hx x (List.mem_cons_self ..);refine ih _ (λy hy=>hx y (List.mem_cons_of_mem _ hy)) ?_ ?_
  ·show ∀ y ∈ (z0c q st x.1).1,y.size<=n;unfold z0c;by_cases c1:0 < st.2.size
   ·by_cases c2:q < (st.2.size:Int)+1+x.1.size
    ·rw [if_pos c1,if_pos c2];intro y hy
     rcases List.mem_append.1 hy with hy | hy
     ·exact h1 y hy
     ·simp at hy;subst hy;exact h2
    ·rw [if_pos c1,if_neg c2];exact h1
   ·rw [if_neg c1];exact h1
  ·show (z0c q st x.1).2.size<=n;by_cases c1:0 < st.2.size
   ·by_cases c2:q < (st.2.size:Int)+1+x.1.size
    ·rw [(z5O c1 x c2).2];exact hx1
    ·rw [(z6u c1 x c2).2];omega
   ·rw [(zaY (q:=q) c1 x).2];exact hx1
theorem zfu (a b:Int) (w:World):Calls prog 82 #[int i64 a,int i64 b] w λe w'=>e=.returned (int i64 (max a b))/\w'=w:=by
 by_cases h:b < a
 ·have e:max a b=a:=(by omega);rw [e];go_enter func82,ntmps82;go_wp2;go_ret;exact ⟨rfl,rfl⟩
 ·have e:max a b=b:=(by omega);rw [e];go_enter func82,ntmps82;go_wp2;go_ret;exact ⟨rfl,rfl⟩
theorem zdt {l:List W30} {k:Nat} (h:k < l.length):z0E (l.take (k+1))=max (z0E (l.take k)) l[k].1.size:=by
 rw [List.take_succ_eq_append_getElem h,z8o]
theorem zdu (s:ByteArray) (hs:s.size<=maxLen) (w:World) :
  Calls prog 142 #[.string s] w λe w'=>e=.returned (int i64 (z0E (zZ s)))/\Below w.heap.size w w':=by
 have hlen:=z60 s;have HW:=O (z8m s hs);generalize zZ s=l at HW hlen |-;go_enter func142,ntmps142;go_wp2_with fail
 refine (HW.out _).mono ?_;rintro e w1 ⟨v,rfl,hv,hb⟩;have HV:=O hv;have HB:=O hb;obtain ⟨a,cap,rfl⟩:=za9 hv;clear hv hb;go_wp2_with fail
 go_loop [4,5] (λn i=>∃ k:Nat,k<=l.length/\i=int i64 k/\n=int i64 (z0E (l.take k))) (λ_ i=>l.length - (intOf i).toNat)
 case atStart=>exact ⟨0,nZ,rfl,rfl⟩
 case round =>
  obtain ⟨k,hk,rfl,rfl⟩:=hrel;by_cases hlt:k < l.length
  ·obtain ⟨g,cap',e',h1,h2,hx⟩:=zeH HV.out hlt;simp only [Value.slice.injEq,true_and] at e';obtain ⟨rfl,rfl⟩:=e';have HS:=O (zdt hlt);have h3:=l[k].2;have h4:=z58 (l.take k);generalize l[k]=x at hx HS h3;unfold maxLen at h2;go_wp2_with (go_at_call 82;refine (zfu _ _ _).mono ?_;rintro e w' ⟨rfl,rfl⟩)
   go_round
   case rel=>exact ⟨k+1,by omega,by go_num,by rw [HS.out];go_num⟩
   case measure=>simp [intOf];omega
  ·obtain rfl:k=l.length:=by omega
   go_wp2;go_ret;exact ⟨rfl,HB.out⟩
def z3K (rm:List Int) (st:List (List (List zk)) × List (List zk)) (p:List zk):List (List (List zk)) × List (List zk) :=
 if z1a (st.2.foldl z0b []) p (zN rm st.1.length) then (st.1,st.2 ++ [p]) else (st.1 ++ [st.2],[p])
def z1C (g:List (List zk)):List zk:=g.foldl z0b []
theorem zfz (rm:List Int) (st:List (List (List zk)) × List (List zk)) (p:List zk):z00 rm (st.1.map z1C,z1C st.2) p=((z3K rm st p).1.map z1C,z1C (z3K rm st p).2):=by
 unfold z00 z3K;simp only [List.length_map];show (if z1a (st.2.foldl z0b []) p (zN rm st.1.length)=true then _ else _)=_
 split
 ·simp [z1C]
 ·simp [z1C]
theorem zj7 (rm:List Int):∀ (ps:List (List zk)) (st:List (List (List zk)) × List (List zk)),ps.foldl (z00 rm) (st.1.map z1C,z1C st.2)=((ps.foldl (z3K rm) st).1.map z1C,z1C (ps.foldl (z3K rm) st).2)
 | [],st=>rfl
 | p :: ps,st=>by
  rw [List.foldl_cons,List.foldl_cons,zfz,zj7 rm ps]
def z6x (rm:List Int) (ps:List (List zk)):List (List (List zk)):=(ps.foldl (z3K rm) ([],[])).1 ++ [(ps.foldl (z3K rm) ([],[])).2]
theorem z8B (rm:List Int) (ps:List (List zk)):z3c rm ps=(z6x rm ps).map z1C:=by
 have:=zj7 rm ps ([],[]);unfold z3c z6x;simp only [List.map_append,List.map_cons,List.map_nil];show (ps.foldl (z00 rm) ([].map z1C,z1C [])).1 ++ [(ps.foldl (z00 rm) ([].map z1C,z1C [])).2]=_;rw [this]
structure GI (rm:List Int) (ps:List (List zk)) (st:List (List (List zk)) × List (List zk)):Prop where
 flat:(st.1 ++ [st.2]).flatten=ps
 ne:ps ≠ []->∀ g ∈ st.1 ++ [st.2],g ≠ []
 only:ps=[]->st.1=[]
 fit:∀ i,i < st.1.length->(st.1.getD i []).length<=1\/zu (st.1.getD i []).flatten<=zN rm i
 fit2:st.2.length<=1\/zu st.2.flatten<=zN rm st.1.length
 full:∀ i,i < st.1.length->zN rm i < zu (st.1.getD i []).flatten+zu (((st.1 ++ [st.2]).getD (i+1) []).headD [])
theorem zeN (page:List zk) (s:zk):z2o page s ≠ []:=by
 rcases List.eq_nil_or_concat page with rfl | ⟨a,l,rfl⟩
 ·simp [z2o]
 ·rw [List.concat_eq_append,z6E]
  split <;> simp
theorem zb8:∀ {piece page:List zk},page ≠ []->z0b page piece ≠ []
 | [],_,h=>h
 | s :: l,page,_=>zb8 (piece:=l) (zeN page s)
theorem z9z {piece page:List zk} (h:piece ≠ []):z0b page piece ≠ []:=by
 cases piece with
 | nil=>exact absurd rfl h
 | cons s l=>exact zb8 (piece:=l) (zeN page s)
theorem zdz:∀ {g:List (List zk)} {page:List zk},page ≠ []->g.foldl z0b page ≠ []
 | [],_,h=>h
 | _ :: g,_,h=>zdz (g:=g) (zb8 h)
theorem zfA {g:List (List zk)} (h:∀ p ∈ g,p ≠ []):z1C g=[] ↔ g=[]:=by
 constructor
 ·intro e
  cases g with
  | nil=>rfl
  | cons p g =>
   exact absurd e (zdz (g:=g) (z9z (h p (by simp))))
 ·rintro rfl;rfl
theorem z66 {α:Type} {a b:List α} {d:α} {i:Nat} (h:i < a.length):(a ++ b).getD i d=a.getD i d:=by
 rw [List.getD_eq_getElem?_getD,List.getElem?_append_left h,<-List.getD_eq_getElem?_getD]
theorem z5e {α:Type} {a:List α} {x d:α}:(a ++ [x]).getD a.length d=x:=by simp [List.getD]
theorem zfB {α:Type} {a:List α} {x y d:α}:(a ++ [x] ++ [y]).getD (a.length+1) d=y:=by
 have:a.length+1=(a ++ [x]).length:=(by simp);rw [this,z5e]
theorem GI.step {rm:List Int} {ps:List (List zk)} {st:List (List (List zk)) × List (List zk)} (h:GI rm ps st) {p:List zk} (hall:∀ q ∈ ps,q ≠ []) (hmer:zu (z1C st.2)=zu st.2.flatten):GI rm (ps ++ [p]) (z3K rm st p):=by
 obtain ⟨done,cur⟩:=st
 have hcur:∀ q ∈ cur,q ≠ []:=λq hq=>hall q (by
  rw [<-h.flat];simp only [List.flatten_append,List.mem_append]
  right
  simpa using hq)
 have hmn:=zfA hcur;unfold z3K;simp only at hmer hmn |-;by_cases hc:cur=[]
 ·subst hc
  have hps:ps=[]:=by
   cases ps with
   | nil=>rfl
   | cons a l=>exact absurd rfl (h.ne (by simp) [] (by simp))
  have hd:=h.only hps;simp only at hd;subst hd hps;rw [if_pos (by rfl)];refine ⟨by simp,?_,by simp,by simp,.inl (by simp),by simp⟩;intro _ g hg;simp only [List.nil_append,List.mem_singleton] at hg;rw [hg];simp
 ·have hne:(cur.foldl z0b []).isEmpty=false:=by
   have h2:z1C cur ≠ []:=λe=>hc (hmn.1 e);unfold z1C at h2
   cases hx:cur.foldl z0b [] with
   | nil=>exact absurd hx h2
   | cons a l=>rfl
  have hps:ps ≠ []:=by
   intro e;have:=h.flat;rw [e] at this;simp only [List.flatten_append,List.append_eq_nil_iff] at this;exact hc (by simpa using this.2)
  have hfl:=h.flat;have hne2:=h.ne hps;by_cases ht:z1a (cur.foldl z0b []) p (zN rm done.length)=true
  ·rw [if_pos ht];have ht2:=ht;unfold z1a at ht2;rw [hne,Bool.false_or,decide_eq_true_eq] at ht2;have e1:zu (cur.foldl z0b [])=zu cur.flatten:=hmer;refine ⟨?_,λ_ g hg=>?_,λe=>by simp at e,h.fit,.inr ?_,λi hi=>?_⟩
   ·rw [<-hfl];simp
   ·rcases List.mem_append.1 hg with h1 | h1
    ·exact hne2 g (List.mem_append.2 (.inl h1))
    ·rw [List.mem_singleton.1 h1];simp
   ·simp only [List.flatten_append,z1D,List.flatten_cons,List.flatten_nil,List.append_nil];omega
   ·have hf:=h.full i hi;simp only at hf hi |-
    rcases Nat.lt_or_eq_of_le (show i+1<=done.length by omega) with h1 | h1
    ·rw [z66 h1] at hf |-;exact hf
    ·rw [h1,z5e] at hf |-
     cases cur with
     | nil=>exact absurd rfl hc
     | cons a l=>exact hf
  ·rw [if_neg ht];have ht2:=ht;unfold z1a at ht2;rw [hne,Bool.false_or,decide_eq_true_eq] at ht2;have e1:zu (cur.foldl z0b [])=zu cur.flatten:=hmer;have hf2:=h.fit2;refine ⟨?_,λ_ g hg=>?_,λe=>by simp at e,λi hi=>?_,.inl (by simp),λi hi=>?_⟩
   ·simp only at hfl |-;rw [List.flatten_append,hfl];simp
   ·rcases List.mem_append.1 hg with h1 | h1
    ·exact hne2 g h1
    ·rw [List.mem_singleton.1 h1];simp
   ·simp only [List.length_append,List.length_cons,List.length_nil] at hi |-
    rcases Nat.lt_or_eq_of_le (show i<=done.length by omega) with h1 | h1
    ·rw [z66 h1];exact h.fit i h1
    ·subst h1;rw [z5e];exact hf2
   ·simp only [List.length_append,List.length_cons,List.length_nil] at hi |-
    rcases Nat.lt_or_eq_of_le (show i<=done.length by omega) with h1 | h1
    ·have hf:=h.full i h1;simp only at hf;rw [z66 h1,z66 (by simp;omega)];exact hf
    ·subst h1;rw [z5e,zfB];simp only [List.headD_cons];omega
theorem zdA {rm:List Int}:∀ {ps:List (List zk)},(∀ q ∈ ps,q ≠ [])->(∀ A B C,ps=A ++ B ++ C->zu (B.foldl z0b [])=zu B.flatten)->GI rm ps (ps.foldl (z3K rm) ([],[])):=by
 suffices h:∀ (n:Nat) (ps:List (List zk)),ps.length=n->(∀ q ∈ ps,q ≠ [])->(∀ A B C,ps=A ++ B ++ C->zu (B.foldl z0b [])=zu B.flatten)->GI rm ps (ps.foldl (z3K rm) ([],[])) from λ{ps}=>h ps.length ps rfl
 intro n
 induction n with
 | zero =>
  intro ps hl _ _;have:ps=[]:=List.eq_nil_of_length_eq_zero hl;subst this;exact ⟨by simp,λh=>absurd rfl h,λ_=>rfl,λi hi=>absurd hi (Nat.not_lt_zero i),.inl (by simp),λi hi=>absurd hi (Nat.not_lt_zero i)⟩
 | succ n ih =>
  intro ps hl hne hm
  rcases List.eq_nil_or_concat ps with rfl | ⟨a,p,rfl⟩
  ·cases hl
  ·rw [List.concat_eq_append] at hl hne hm |-;rw [List.foldl_append,List.foldl_cons,List.foldl_nil];have hG:=ih a (by simpa using hl) (λq hq=>hne q (List.mem_append.2 (.inl hq))) (λA B C e=>hm A B (C ++ [p]) (by rw [e];simp));refine hG.step (λq hq=>hne q (List.mem_append.2 (.inl hq))) ?_;refine hm ((a.foldl (z3K rm) ([],[])).1.flatten) _ [p] ?_;have:=hG.flat;rw [List.flatten_append] at this;simp only [List.flatten_cons,List.flatten_nil,List.append_nil] at this;rw [this]
theorem zhr {t:T} {hs:List Int} {gs:List GC} {R:Nat}:∀ k,k < (z0l gs R).length->∀ p ∈ z1h t hs (z0l gs R) k,p ≠ []
 | 0,_,p,hp=>by simp [z1h] at hp
 | k+1,hk,p,hp=>by
  obtain ⟨s1,_⟩:=z3T hk;rw [z1h] at hp
  rcases List.mem_append.1 hp with h1 | h1
  ·exact zhr k (by omega) p h1
  ·unfold z1A at h1
   split at h1
   ·split at h1
    ·rw [z0o,List.mem_map] at h1;obtain ⟨i,_,rfl⟩:=h1;simp
    ·rw [List.mem_singleton] at h1;subst h1;intro e;have:=z1b hs ((z0l gs R).getD (k+1) 0 - (z0l gs R).getD k 0) ((z0l gs R).getD k 0);rw [e,List.length_nil] at this;omega
   ·cases h1
theorem zeO {t:T} {hs:List Int}:∀ p ∈ z0B t hs,p ≠ []:=zhr _ (by rw [z5o];omega)
theorem z9g {t:T} (hD:z0g t) (hok:zF t=true) {hs:List Int} (hb:∀ x ∈ hs,0<=x/\x<=1000) (rm:List Int):GI rm (z0B t hs) ((z0B t hs).foldl (z3K rm) ([],[])) :=
 zdA zeO (λ_ _ _ e=>(z4h hD hok hb e).2.2)
end
section
open Go.RowKit Go.BigFrame
theorem zhx (R C:Int) (ac:Option Addr) (cc:Nat) (gs:List GC) (w:World) {z:Nat} (h:z1K w z (.slice ac gs.length cc) gs) :
  Calls prog 121 #[.agg #[int i64 R,int i64 C,.slice ac gs.length cc]] w λe w'=>e=.returned (.bool (okB ⟨R,C,gs⟩))/\Below w.heap.size w w':=by
 obtain ⟨_,_,_,hlen⟩:=At.form h;unfold maxLen at hlen;have K0:=O (ze (Below.refl w.heap.size w) (.cells #[int i64 R,int i64 C,.slice ac gs.length cc] 38));have X0:=O (zj w (.cells #[int i64 R,int i64 C,.slice ac gs.length cc] 38));have H:=O h;have hmx:prog.follows .mixedOrders=true:=(by kernel_rfl);have Q1:=O (z0t R 1 8);have Q2:=O (z0t C 1 94);clear h
 cases p1:zM R 1 8 with
 | false =>
  have HF:Hid (okB ⟨R,C,gs⟩=false):=z7o (by simp only [z4c,p1,Bool.false_and]);rw [p1] at Q1;go_enter func121,ntmps121;go_wp2_with fail
  refine (Q1.out _).mono ?_;rintro e w1 ⟨rfl,rfl⟩;go_wp2;go_ret;exact ⟨zV HF.out.symm,K0.out⟩
 | true =>
  rw [p1] at Q1
  cases p2:zM C 1 94 with
  | false =>
   have HF:Hid (okB ⟨R,C,gs⟩=false):=z7o (by simp only [z4c,p2,Bool.false_and,Bool.and_false]);rw [p2] at Q2;go_enter func121,ntmps121;go_wp2_with fail
   refine (Q1.out _).mono ?_;rintro e w1 ⟨rfl,rfl⟩;go_wp2_with fail
   refine (Q2.out _).mono ?_;rintro e w1 ⟨rfl,rfl⟩;go_wp2;go_ret;exact ⟨zV HF.out.symm,K0.out⟩
  | true =>
   rw [p2] at Q2;by_cases p3:gs.length<=40
   ·have HBB:=O (z83 p1 p2 p3);obtain ⟨hR1,hR2,hC1,hC2,hn⟩:=zbg HBB.out;have p3':¬ (40:Int) < (gs.length:Int):=(by omega);clear p1 p2;go_enter func121,ntmps121;go_wp2_with fail
    refine (Q1.out _).mono ?_;rintro e w1 ⟨rfl,rfl⟩;go_wp2_with fail
    refine (Q2.out _).mono ?_;rintro e w1 ⟨rfl,rfl⟩;go_wp2_with fail
    go_loopw [3] (λi W=>∃ k:Nat,k<=gs.length/\i=int i64 k/\Hid (z6j R C gs k=true)/\Hid (Below w.heap.size w W)/\Hid (W.heap[w.heap.size]?=some (.cells #[int i64 R,int i64 C,.slice ac gs.length cc] 38))) (λi _=>gs.length - (intOf i).toNat)
    case atStart=>exact ⟨0,nZ,rfl,zgc _ _ _,K0.out,X0.out⟩
    case round =>
     obtain ⟨k,hk,rfl,HO,HB,HX⟩:=hrel;have g2':wr.cell? ⟨w.heap.size,2,none⟩=some (.slice ac gs.length cc):=zf HX.out;have hz:w.heap.size < wr.heap.size:=(bL HX.out);by_cases hlt:k < gs.length
     ·have hlt':(k:Int) < (gs.length:Int):=(by omega);have h0':(0:Int)<=(k:Int):=(by omega);obtain ⟨q,off,cap',e',hc1,hc2,hbl,hx,hs⟩:=At.get (H.out.kept HB.out) hlt;simp only [Value.slice.injEq,true_and] at e';obtain ⟨rfl,rfl⟩:=e';have HN:Hid (z18 R C (gs.getD k dG)=true->z1k (gs.take k) (gs.getD k dG)=true->z6j R C gs (k+1)=true):=λh1 h2=>zgd HO.out h1 h2;have HF:Hid ((z18 R C (gs.getD k dG) && z1k (gs.take k) (gs.getD k dG))=false->okB ⟨R,C,gs⟩=false):=λh1=>zf3 (zf2 hlt h1);have HFit:=O (zbi (Nat.le_of_lt hlt) HO.out);generalize gs.getD k dG=x at hx hs HN HF;obtain ⟨x0,x1,x2,x3,x4⟩:=hx;obtain ⟨b0,b1,b2,b3,b4⟩:=hs;unfold I64 at b0 b1 b2 b3 b4;unfold maxLen at hc2;go_wp2_with fail
      obtain ⟨W1,hW1⟩:∃ W1,wr.alloc (.cells #[int i64 x.row,int i64 x.col,int i64 x.rows,int i64 x.cols,int i64 x.ins] 51)=W1:=⟨_,rfl⟩;rw [hW1];have hs1:W1.heap.size=wr.heap.size+1:=(by rw [<-hW1];simp);have HB1:Hid (Below w.heap.size w W1):=(by rw [<-hW1];exact ze HB.out _);have HX1:Hid (W1.heap[w.heap.size]?=some (.cells #[int i64 R,int i64 C,.slice (some ⟨q,off,none⟩) gs.length cc] 38)):=(by rw [<-hW1];exact (bA hz).trans HX.out);have HY1:Hid (W1.heap[wr.heap.size]?=some (.cells #[int i64 x.row,int i64 x.col,int i64 x.rows,int i64 x.cols,int i64 x.ins] 51)):=(by rw [<-hW1];exact zj _ _);have zw:w.heap.size < W1.heap.size:=(by omega);have zr:wr.heap.size < W1.heap.size:=(by omega);clear hW1 HB HX;have g0:=zm (a:=⟨w.heap.size,0,none⟩) (v:=int i64 R) zw (zf HX1.out);have g1:=zm (a:=⟨w.heap.size,1,none⟩) (v:=int i64 C) zw (zf HX1.out);have g2:=zm (a:=⟨w.heap.size,2,none⟩) (v:=.slice (some ⟨q,off,none⟩) gs.length cc) zw (zf HX1.out);have y0:=zm (a:=⟨wr.heap.size,0,none⟩) (v:=int i64 x.row) zr (zf HY1.out);have y1:=zm (a:=⟨wr.heap.size,1,none⟩) (v:=int i64 x.col) zr (zf HY1.out);have y2:=zm (a:=⟨wr.heap.size,2,none⟩) (v:=int i64 x.rows) zr (zf HY1.out);have y3:=zm (a:=⟨wr.heap.size,3,none⟩) (v:=int i64 x.cols) zr (zf HY1.out);have y4:=zm (a:=⟨wr.heap.size,4,none⟩) (v:=int i64 x.ins) zr (zf HY1.out);have hne:=z0H W1;have r1:IntKind.i64.wrap (R - 1)=R - 1:=(by rw [IntKind.wrap_i64];omega);have r2:IntKind.i64.wrap (C - 1)=C - 1:=(by rw [IntKind.wrap_i64];omega)
      cases h1:zM x.row 0 (R - 1) with
      | false =>
       have HF':=O (HF.out (by simp only [z18,h1,Bool.false_and]));clear HN HF HO HFit;refine zv hmx (by kernel_rfl) ?_;repeat (go_big_quiet_step (first | (go_at_call 36;refine z1U (z0t _ _ _ _))))
       refine wpQuiet_nil ?_;intro _ hw';obtain ⟨⟨W7,hW7⟩,hw''⟩:=hw';subst hw'';have HB7:=O (zi HB1.out hW7);clear hW7;go_wp2;go_ret;exact ⟨zV HF'.out.symm,HB7.out⟩
      | true =>
       have r3:IntKind.i64.wrap (R - x.row)=R - x.row:=by
        have:=of_decide_eq_true h1;rw [IntKind.wrap_i64];omega
       cases h2:zM x.col 0 (C - 1) with
       | false =>
        have HF':=O (HF.out (by simp only [z18,h2,Bool.false_and,Bool.and_false]));clear HN HF HO HFit;refine zv hmx (by kernel_rfl) ?_;repeat (go_big_quiet_step (first | (go_at_call 36;refine z1U (z0t _ _ _ _))))
        refine wpQuiet_nil ?_;intro _ hw';obtain ⟨⟨W7,hW7⟩,hw''⟩:=hw';subst hw'';have HB7:=O (zi HB1.out hW7);clear hW7;go_wp2;go_ret;exact ⟨zV HF'.out.symm,HB7.out⟩
       | true =>
        have r4:IntKind.i64.wrap (C - x.col)=C - x.col:=by
         have:=of_decide_eq_true h2;rw [IntKind.wrap_i64];omega
        cases h3:zM x.rows 1 (R - x.row) with
        | false =>
         have HF':=O (HF.out (by simp only [z18,h3,Bool.false_and,Bool.and_false]));clear HN HF HO HFit;refine zv hmx (by kernel_rfl) ?_;repeat (go_big_quiet_step (first | (go_at_call 36;refine z1U (z0t _ _ _ _))))
         refine wpQuiet_nil ?_;intro _ hw';obtain ⟨⟨W7,hW7⟩,hw''⟩:=hw';subst hw'';have HB7:=O (zi HB1.out hW7);clear hW7;go_wp2;go_ret;exact ⟨zV HF'.out.symm,HB7.out⟩
        | true =>
         cases h4:zM x.cols 1 (C - x.col) with
         | false =>
          have HF':=O (HF.out (by simp only [z18,h4,Bool.false_and,Bool.and_false]));clear HN HF HO HFit;refine zv hmx (by kernel_rfl) ?_;repeat (go_big_quiet_step (first | (go_at_call 36;refine z1U (z0t _ _ _ _))))
          refine wpQuiet_nil ?_;intro _ hw';obtain ⟨⟨W7,hW7⟩,hw''⟩:=hw';subst hw'';have HB7:=O (zi HB1.out hW7);clear hW7;go_wp2;go_ret;exact ⟨zV HF'.out.symm,HB7.out⟩
         | true =>
          cases h5:zM x.ins 0 4 with
          | false =>
           have HF':=O (HF.out (by simp only [z18,h5,Bool.and_false,Bool.false_and]));clear HN HF HO HFit;refine zv hmx (by kernel_rfl) ?_;repeat (go_big_quiet_step (first | (go_at_call 36;refine z1U (z0t _ _ _ _))))
           refine wpQuiet_nil ?_;intro _ hw';obtain ⟨⟨W7,hW7⟩,hw''⟩:=hw';subst hw'';have HB7:=O (zi HB1.out hW7);clear hW7;go_wp2;go_ret;exact ⟨zV HF'.out.symm,HB7.out⟩
          | true =>
           have hfit:z18 R C x=true:=(by simp only [z18,h1,h2,h3,h4,h5,Bool.and_self]);have hl:(gs.take k).length=k:=(by rw [List.length_take];omega);have KL:=O (λ(p:BW W1)=>z9V (some ⟨q,off,none⟩) cc (gs.take k) (λa ha=>zet (HFit.out a ha) hR2 hC2) x (zet hfit hR2 hC2) p.u (((H.out.kept HB1.out).kept p.h).take hk));rw [hl] at KL
           cases hfr:z1k (gs.take k) x with
           | false =>
            rw [hfr] at KL;have HF':=O (HF.out (by simp only [hfr,Bool.and_false]));clear HN HF HO HFit hfit hfr hl;refine zv hmx (by kernel_rfl) ?_;repeat (go_big_quiet_step (first | (go_at_call 36;refine z1U (z0t _ _ _ _)) | (go_at_call 84;refine z4z (KL.out _))))
            refine wpQuiet_nil ?_;intro _ hw';obtain ⟨⟨W7,hW7⟩,hw''⟩:=hw';subst hw'';have HB7:=O (zi HB1.out hW7);clear hW7;go_wp2;go_ret;exact ⟨zV HF'.out.symm,HB7.out⟩
           | true =>
            rw [hfr] at KL;have HN':=O (HN.out hfit hfr);clear HN HF HO HFit hfit hfr hl;refine zv hmx (by kernel_rfl) ?_;repeat (go_big_quiet_step (first | (go_at_call 36;refine z1U (z0t _ _ _ _)) | (go_at_call 84;refine z4z (KL.out _))))
            refine wpQuiet_nil ?_;intro _ hw';obtain ⟨⟨W7,hW7⟩,hw''⟩:=hw';subst hw'';have HB7:=O (zi HB1.out hW7);have HX7:=O ((hW7.block w.heap.size zw).trans HX1.out);clear hW7;go_wp2;go_roundw
            case rel=>exact ⟨k+1,by omega,by go_num,HN',HB7,HX7⟩
            case measure=>simp [intOf];omega
     ·obtain rfl:k=gs.length:=by omega
      have HF:Hid (okB ⟨R,C,gs⟩=true):=by
       show okB _=true;simp only [okB,HBB.out,HO.out,Bool.and_self]
      clear HO;go_wp2;go_ret;exact ⟨zV HF.out.symm,HB.out⟩
   ·have p3':(40:Int) < (gs.length:Int):=(by omega);have HF:Hid (okB ⟨R,C,gs⟩=false):=z7o (by simp only [z4c,p3,decide_false,Bool.and_false]);go_enter func121,ntmps121;go_wp2_with fail
    refine (Q1.out _).mono ?_;rintro e w1 ⟨rfl,rfl⟩;go_wp2_with fail
    refine (Q2.out _).mono ?_;rintro e w1 ⟨rfl,rfl⟩;go_wp2;go_ret;exact ⟨zV HF.out.symm,K0.out⟩
end
end Go.Proofs.YtggmjiddadjilahGreat
