/-
  PROVED HERE: columns made wide enough for all cells of a drawn table's grid, as lists: first for those over one column, then over two, and so on; what is known of each cell. Also: 14 more texts of the same proof.
-/
import Derived.Test.YtggmjiddadjilahGreatJ26
import Derived.Test.YtggmjiddadjilahGreatJ30
set_option maxRecDepth 1000000
set_option maxHeartbeats 40000000
open Go.Proofs.Tryz
namespace Go.Proofs.YtggmjiddadjilahGreat
open Value (int)
open IntKind (i64)
section
open Go.RowKit
def z1H (p:GC->Int) (gap s:Int) (gs:List GC) (l:List Int):Nat->List Int
 | 0=>l
 | k+1=>if (gs.getD k dG).cols=s then z3a (z1H p gap s gs l k) (gs.getD k dG).col.toNat (gs.getD k dG).cols.toNat gap (p (gs.getD k dG)) else z1H p gap s gs l k
def z0T (p:GC->Int) (gap:Int) (gs:List GC) (l:List Int):Nat->List Int
 | 0=>l
 | s+1=>z1H p gap ((s+1:Nat):Int) gs (z0T p gap gs l s) gs.length
theorem z4i (p:GC->Int) (gap s:Int) (gs:List GC) (l:List Int):∀ k,(z1H p gap s gs l k).length=l.length
 | 0=>rfl
 | k+1=>by rw [z1H];split;rw [zbI];exact z4i p gap s gs l k;exact z4i p gap s gs l k
theorem z3v (p:GC->Int) (gap:Int) (gs:List GC) (l:List Int):∀ s,(z0T p gap gs l s).length=l.length
 | 0=>rfl
 | s+1=>by rw [z0T,z4i,z3v p gap gs l s]
def zR (t:T) (x:GC):ByteArray:=((t.rows.getD x.row.toNat dR).cells.getD x.ins.toNat dC).s
structure Cel (t:T) (C:Nat) (x:GC):Prop where
 ex:∃ rn jn cn mn:Nat,x.row=rn/\x.ins=jn/\x.col=cn/\x.cols=mn/\rn < t.rows.length/\jn < (t.rows.getD rn dR).cells.length/\cn+mn<=C/\1<=mn/\mn<=4
 gap:0<=t.gap/\t.gap<=3
 rows:0<=x.rows/\x.rows<=8
theorem z35 {t:T} (hD:z0g t):(Z t).cells.length<=40/\∃ C:Nat,(Z t).cols=C/\C<=88/\∀ k,k < (Z t).cells.length->Cel t C ((Z t).cells.getD k dG):=by
 cases h:zF t with
 | false=>rw [zcI h];exact ⟨by simp,0,rfl,by omega,λk hk=>absurd hk (Nat.not_lt_zero _)⟩
 | true =>
  have hl:=z3S h hD;have h8:=hl.rows;have h40:=z7q hl t.rows.length
  have hg:0<=t.gap/\t.gap<=3:=by
   simp only [zF,zM,Bool.and_eq_true,decide_eq_true_eq] at h;exact h.2.2.1
  have hc:t.cols.length<=8:=by
   simp only [zF,z2k,Bool.and_eq_true,decide_eq_true_eq] at h;omega
  have hcb:=z94 hl hc;rw [z2z h];refine ⟨by show (z0a t t.rows.length).length<=40;omega,(z0x (max 1 (t.cols.length:Int)) (zU t)).toNat,by show z0x (max 1 (t.cols.length:Int)) (zU t)=_;omega,by omega,λk hk=>⟨?_,hg,?_⟩⟩
  ·have hk':k < (zU t).length:=hk;obtain ⟨r,j,hr,hj,e⟩:=(z8K hl hk').ex;have hst:=z3Y hl (z2q (d:=dG) hk');have hm:=z7r (m:=max 1 (t.cols.length:Int)) (z2q (d:=dG) hk');have e1:((zU t).getD k dG).row=r:=(by rw [e];rfl);have e2:((zU t).getD k dG).ins=j:=(by rw [e];rfl);unfold z1z at hst;show ∃ rn jn cn mn:Nat,((zU t).getD k dG).row=rn/\((zU t).getD k dG).ins=jn/\((zU t).getD k dG).col=cn/\((zU t).getD k dG).cols=mn/\_;refine ⟨r,j,((zU t).getD k dG).col.toNat,((zU t).getD k dG).cols.toNat,e1,e2,by omega,by omega,hr,hj,by omega,by omega,by omega⟩
  ·have hk':k < (zU t).length:=hk;have hst:=z3Y hl (z2q (d:=dG) hk');unfold z1z at hst;show 0<=((zU t).getD k dG).rows/\((zU t).getD k dG).rows<=8;omega
theorem z8M {t:T} {C:Nat} {gs:List GC} {p:GC->Int} {l:List Int} {B s:Int} (hC:∀ k,k < gs.length->Cel t C (gs.getD k dG)) (hl:l.length=C) (hp:∀ x,p x<=30) (hb:UpB l B) (hB:B+30 * gs.length<=50000):∀ k,k<=gs.length->UpB (z1H p t.gap s gs l k) (B+30 * (k:Int))
 | 0,_=>by intro i hi;have:=hb i hi;show 0<=l.getD i 0/\l.getD i 0<=_;omega
 | k+1,hk=>by
  have ih:=z8M (s:=s) hC hl hp hb hB k (by omega);have hx:=hC k (by omega);rw [z1H]
  split
  ·obtain ⟨rn,jn,cn,mn,e1,e2,e3,e4,h1,h2,h3,h4,h5⟩:=hx.ex;rw [e3,e4,Int.toNat_natCast,Int.toNat_natCast];have:=zgP ih (by omega) (by rw [z4i,hl];exact h3) ⟨h4,h5⟩ hx.gap (hp (gs.getD k dG)) (c:=cn) (m:=mn);intro i hi;have:=this i hi;omega
  ·intro i hi;have:=ih i hi;omega
theorem z8N {t:T} {C:Nat} {gs:List GC} {p:GC->Int} {l:List Int} (hC:∀ k,k < gs.length->Cel t C (gs.getD k dG)) (h40:gs.length<=40) (hl:l.length=C) (hp:∀ x,p x<=30) (hb:UpB l 0):∀ s,s<=4->UpB (z0T p t.gap gs l s) (1200 * (s:Int))
 | 0,_=>by intro i hi;have:=hb i hi;show 0<=l.getD i 0/\l.getD i 0<=_;omega
 | s+1,hs=>by
  have ih:=z8N hC h40 hl hp hb s (by omega);have:=z8M (s:=((s+1:Nat):Int)) hC (by rw [z3v];exact hl) hp ih (by omega) gs.length lR;intro i hi;have:=this i hi;rw [z0T];omega
theorem z56 {a:Int} (h:-9223372036854775808<=a/\a<=9223372036854775807):IntKind.i64.wrap a=a:=by rw [IntKind.wrap_i64];omega
theorem zdZ {cn m C:Nat} (h:cn+(m+1)<=C) (hC:C<=88):(cn:Int)<=(cn:Int)+((m:Int)+1)/\(cn:Int)+((m:Int)+1)<=(C:Int)/\(0:Int)<=(cn:Int)+((m:Int)+1)/\((cn:Int)+((m:Int)+1)).toNat=cn+(m+1)/\cn+(m+1) - cn=m+1/\¬ C=cn/\wrap64 ((cn:Int)+((m:Int)+1))=(cn:Int)+((m:Int)+1)/\IntKind.i64.wrap ((cn:Int)+((m:Int)+1))=(cn:Int)+((m:Int)+1):=by
 have e:-9223372036854775808<=(cn:Int)+((m:Int)+1)/\(cn:Int)+((m:Int)+1)<=9223372036854775807:=(by omega);exact ⟨by omega,by omega,by omega,by omega,by omega,by omega,z32 e,z56 e⟩
theorem zd0 {cn m C:Nat} (h:cn+(m+1)<=C) (hC:cn+(m+1)<=88):(cn:Int)<=(cn:Int)+((m:Int)+1)/\(cn:Int)+((m:Int)+1)<=(C:Int)/\(0:Int)<=(cn:Int)+((m:Int)+1)/\((cn:Int)+((m:Int)+1)).toNat=cn+(m+1)/\cn+(m+1) - cn=m+1/\¬ C=cn/\wrap64 ((cn:Int)+((m:Int)+1))=(cn:Int)+((m:Int)+1)/\IntKind.i64.wrap ((cn:Int)+((m:Int)+1))=(cn:Int)+((m:Int)+1):=by
 have e:-9223372036854775808<=(cn:Int)+((m:Int)+1)/\(cn:Int)+((m:Int)+1)<=9223372036854775807:=(by omega);exact ⟨by omega,by omega,by omega,by omega,by omega,by omega,z32 e,z56 e⟩
theorem zgQ {cn j C:Nat} (h:cn+j < C) (hC:C<=88):(0:Int)<=(cn:Int)+(j:Int)/\(cn:Int)+(j:Int) < (C:Int)/\((cn:Int)+(j:Int)).toNat=cn+j/\wrap64 ((cn:Int)+(j:Int))=(cn:Int)+(j:Int)/\IntKind.i64.wrap ((cn:Int)+(j:Int))=(cn:Int)+(j:Int):=by
 have e:-9223372036854775808<=(cn:Int)+(j:Int)/\(cn:Int)+(j:Int)<=9223372036854775807:=(by omega);exact ⟨by omega,by omega,by omega,z32 e,z56 e⟩
def z02 (n:Nat):List Int:=List.replicate n 0
theorem zaS (n:Nat):UpB (z02 n) 0:=by
 intro i hi;simp [z02] at hi;simp [z02,List.getD,hi]
def Ws (w:World) (z gb:Nat) (ac ar:Option Addr) (cc cr:Nat) (t:T) (ag:Option Addr) (cg:Nat) (W:World):Prop :=
 Below w.heap.size w W/\TA W z ac ar cc cr t/\W.heap[w.heap.size]?=some (.cells #[.slice ac t.cols.length cc,int i64 t.head,int i64 t.foot,.slice ar t.rows.length cr,int i64 t.gap] 26)/\z1K W w.heap.size (.slice ag (Z t).cells.length cg) (Z t).cells/\W.heap[gb]?=some (.cells #[int i64 (Z t).rows,int i64 (Z t).cols,.slice ag (Z t).cells.length cg] 38)
theorem Ws.kept {w W W':World} {z gb:Nat} {ac ar ag:Option Addr} {cc cr cg:Nat} {t:T} (h:Ws w z gb ac ar cc cr t ag cg W) (hb:Below W.heap.size W W'):Ws w z gb ac ar cc cr t ag cg W' :=
 ⟨h.1.trans (hb.mono h.1.size),h.2.1.kept hb,(hb.block _ (bL h.2.2.1)).trans h.2.2.1,h.2.2.2.1.kept hb,(hb.block gb (bL h.2.2.2.2)).trans h.2.2.2.2⟩
theorem Ws.at {w W:World} {z gb:Nat} {ac ar ag:Option Addr} {cc cr cg:Nat} {t:T} (h:Ws w z gb ac ar cc cr t ag cg W):W.cell? ⟨w.heap.size,3,none⟩=some (.slice ar t.rows.length cr)/\W.cell? ⟨w.heap.size,4,none⟩=some (int i64 t.gap)/\W.cell? ⟨gb,1,none⟩=some (int i64 (Z t).cols)/\W.cell? ⟨gb,2,none⟩=some (.slice ag (Z t).cells.length cg) :=
 ⟨zf h.2.2.1,zf h.2.2.1,zf h.2.2.2.2,zf h.2.2.2.2⟩
theorem zgR {L:List Int} {B:Int} (hub:UpB L B) (hB:B<=50000) {cn m C:Nat} (hll:L.length=C) (h3:cn+m<=C) (hm:m<=4):(z07 L cn m).all wtB=true/\(0<=(z07 L cn m).sum/\(z07 L cn m).sum<=200000)/\(z07 L cn m).length=m:=by
 have hc:cn+m<=L.length:=(by omega);have hb:∀ x ∈ z07 L cn m,0<=x/\x<=50000:=λx hx=>by have:=hub.mem (z6t hx);omega
 have hs:=z5t hb;rw [z1S hc] at hs;refine ⟨?_,by omega,z1S hc⟩;rw [List.all_eq_true];intro x hx;have:=hb x hx;simp only [wtB,decide_eq_true_eq];omega
theorem zgS {gap:Int} (hg:0<=gap/\gap<=3) {m:Nat} (hm:m < 4):0<=gap * (m:Int)/\gap * (m:Int)<=9:=⟨Int.mul_nonneg hg.1 (by omega),Int.le_trans (Int.mul_le_mul hg.2 (show (m:Int)<=3 by omega) (by omega) (by omega)) (by omega)⟩
def zd1 (x:GC) (l:List ByteArray):z0O:=(x.row.toNat,x.rows.toNat,(l.length:Int))
def rcs (gs:List GC) (ls:List (List ByteArray)):List z0O:=List.zipWith zd1 gs ls
theorem zaT {gs:List GC} {ls:List (List ByteArray)} (h:ls.length=gs.length):(rcs gs ls).length=gs.length:=by rw [rcs,List.length_zipWith,h,Nat.min_self]
theorem z8O {gs:List GC} {ls:List (List ByteArray)} (h:ls.length=gs.length) {k:Nat} (hk:k < gs.length):(rcs gs ls)[k]?=some (zd1 (gs.getD k dG) (ls.getD k [])):=by
 have hk2:k < ls.length:=(by omega);simp [rcs,List.getElem?_zipWith,List.getD,hk,hk2]
theorem zeD {gs:List GC} {ls:List (List ByteArray)} (h:ls.length=gs.length) {p:z0O->Prop} (hp:∀ k,k < gs.length->p (zd1 (gs.getD k dG) (ls.getD k []))):∀ c ∈ rcs gs ls,p c:=by
 intro c hc;obtain ⟨k,hk,e⟩:=List.mem_iff_getElem.mp hc;have hk2:k < gs.length:=(by rw [zaT h] at hk;exact hk);have:=z8O h hk2;rw [List.getElem?_eq_getElem hk,e] at this;rw [Option.some.inj this];exact hp k hk2
def z3h (cs:List z0O) (r k:Nat):Int:=(cs.take k).foldl (z1V (z0i cs r)) 0
def hsL (cs:List z0O) (R r k:Nat):List Int:=z0i cs r ++ (z3h cs r k :: z02 (R - (r+1)))
theorem z8P (cs:List z0O) {R r:Nat} (k:Nat) (h:r < R):(hsL cs R r k).length=R:=by
 simp [hsL,z0M,z02];omega
theorem zd2 (cs:List z0O) {R r:Nat} (h:r < R):z0i cs r ++ z02 (R - r)=hsL cs R r 0:=by
 rw [hsL,show R - r=(R - (r+1))+1 by omega,z02,List.replicate_succ];rfl
theorem zaU (cs:List z0O) (R r:Nat):hsL cs R r cs.length=z0i cs (r+1) ++ z02 (R - (r+1)):=by
 rw [hsL,z3h,List.take_length,z0i,List.append_assoc];rfl
theorem zeE (cs:List z0O) (R r k:Nat):(hsL cs R r k).getD r 0=z3h cs r k:=by
 rw [hsL,List.getD_eq_getElem?_getD,List.getElem?_append_right (by rw [z0M];exact lR),z0M,Nat.sub_self];rfl
theorem zjB (cs:List z0O) (R r k:Nat) (y:Int):(hsL cs R r k).set r y=z0i cs r ++ (y :: z02 (R - (r+1))):=by
 rw [hsL,List.set_append_right _ _ (by rw [z0M];exact lR),z0M,Nat.sub_self];rfl
theorem zd3 {cs:List z0O} {r k:Nat} {c:z0O} (h:cs[k]?=some c):z3h cs r (k+1)=z1V (z0i cs r) (z3h cs r k) c:=by
 rw [z3h,List.take_add_one,h,List.foldl_append];rfl
theorem zd4 {cs:List z0O} {R r k:Nat} {c:z0O} (h:cs[k]?=some c) (he:c.1+c.2.1 ≠ r+1):hsL cs R r (k+1)=hsL cs R r k:=by
 rw [hsL,zd3 h,z1V,if_neg (by rw [z0M];exact he),hsL]
theorem zd5 {cs:List z0O} {R r k:Nat} {c:z0O} (h:cs[k]?=some c) (he:c.1+c.2.1=r+1):hsL cs R r (k+1)=(hsL cs R r k).set r (max (z3h cs r k) (c.2.2 - ((z0i cs r).sum - zK (z0i cs r) c.1))):=by
 rw [zjB,hsL,zd3 h,z1V,if_pos (by rw [z0M];exact he)]
theorem zjC (cs:List z0O) {R r:Nat} (k:Nat) {a:Nat} (ha:a<=r):(z07 (hsL cs R r k) a (r - a)).sum=(z0i cs r).sum - zK (z0i cs r) a:=by
 have h1:z07 (hsL cs R r k) a (r - a)=(z0i cs r).drop a:=by
  rw [z07,hsL,List.drop_append_of_le_length (by rw [z0M];exact ha),List.take_append_of_le_length (by rw [List.length_drop,z0M];exact lR),List.take_of_length_le (by rw [List.length_drop,z0M];exact lR)]
 have h2:(z0i cs r).sum=((z0i cs r).take a).sum+((z0i cs r).drop a).sum:=(by rw [<-List.sum_append,List.take_append_drop]);rw [h1,zK];omega
theorem z6I {cs:List z0O} {M:Int} (hM:0<=M) (hc:∀ c ∈ cs,c.2.2<=M) (r k:Nat):0<=z3h cs r k/\z3h cs r k<=M:=by
 refine ⟨zaO _ _ 0,zcQ _ _ 0 (λc h2=>?_) hM⟩;have h3:=zaP (z5p cs r) c.1;have h4:=hc c (List.mem_of_mem_take h2);omega
theorem zgT {cs:List z0O} {M:Int} (hM:0<=M) (hc:∀ c ∈ cs,c.2.2<=M) (R r k:Nat):∀ x ∈ hsL cs R r k,0<=x/\x<=M:=by
 intro x hx
 rcases List.mem_append.mp hx with h | h
 ·exact ⟨z5p cs r x h,z7u hM cs hc r x h⟩
 ·rcases List.mem_cons.mp h with rfl | h
  ·exact z6I hM hc r k
  ·have:=List.eq_of_mem_replicate h;omega
theorem zaV:∀ {l:List Int},(∀ x ∈ l,0<=x/\x<=1000)->l.sum<=1000 * (l.length:Int)
 | [],_=>by simp
 | y :: l,h=>by
  have h1:=h y (List.mem_cons_self ..);have h2:=zaV (l:=l) (λx hx=>h x (List.mem_cons_of_mem _ hx));simp only [List.sum_cons,List.length_cons];omega
theorem zd6 {cs:List z0O} (hc:∀ c ∈ cs,c.2.2<=1000) {R r k a:Nat} (hr:r < R) (hR:R<=88) (ha:a<=r):(z07 (hsL cs R r k) a (r - a)).all wtB=true/\(0<=(z07 (hsL cs R r k) a (r - a)).sum/\(z07 (hsL cs R r k) a (r - a)).sum<=88000)/\(z07 (hsL cs R r k) a (r - a)).length=r - a:=by
 have hl:(z07 (hsL cs R r k) a (r - a)).length=r - a:=z1S (by rw [z8P cs k hr];omega);have hb:∀ x ∈ z07 (hsL cs R r k) a (r - a),0<=x/\x<=1000:=λx hx=>zgT (by omega) hc R r k x (z6t hx);have h1:=zcR (λx hx=>(hb x hx).1);have h2:=zaV hb;refine ⟨?_,⟨h1,by rw [hl] at h2;omega⟩,hl⟩;rw [List.all_eq_true];intro x hx;have:=hb x hx;unfold wtB;exact decide_eq_true (by omega)
def LeL (a b:List Int):Prop:=a.length=b.length/\∀ i,i < a.length->a.getD i 0<=b.getD i 0
theorem LeL.refl (a:List Int):LeL a a:=⟨rfl,λ_ _=>Int.le_refl _⟩
theorem LeL.trans {a b c:List Int} (h:LeL a b) (k:LeL b c):LeL a c:=⟨h.1.trans k.1,λi hi=>Int.le_trans (h.2 i hi) (k.2 i (by rw [<-h.1];exact hi))⟩
theorem LeL.sub {a b:List Int} (h:LeL a b) {c m:Nat} (hc:c+m<=a.length):LeL (z07 a c m) (z07 b c m):=by
 have hb:c+m<=b.length:=(by rw [<-h.1];exact hc);refine ⟨by rw [z1S hc,z1S hb],λi hi=>?_⟩;rw [z1S hc] at hi;rw [z7A hc hi,z7A hb hi];exact h.2 _ (by omega)
theorem zeI:∀ (a b:List Int),a.length=b.length->(List.zipWith (·+·) a b).sum=a.sum+b.sum
 | [],[],_=>by simp
 | [],_ :: _,h=>absurd h (by simp)
 | _ :: _,[],h=>absurd h (by simp)
 | x :: a,y :: b,h=>by
  rw [List.zipWith_cons_cons,List.sum_cons,List.sum_cons,List.sum_cons,zeI a b (by simpa using h)];omega
def zls (l:List Int) (gap:Int) (x:GC):Int:=(z07 l x.col.toNat x.cols.toNat).sum+gap * (x.cols - 1)
def z1F (ps:List (Int × Int)) (l:List Int):Nat->List Int
 | 0=>l
 | k+1=>if (sd ps k).1=1 then (z1F ps l k).set k (max ((z1F ps l k).getD k 0) (sd ps k).2) else z1F ps l k
theorem z1u (ps:List (Int × Int)) (l:List Int):∀ k,(z1F ps l k).length=l.length
 | 0=>rfl
 | k+1=>by rw [z1F];split;rw [List.length_set];exact z1u ps l k;exact z1u ps l k
theorem z2J (ps:List (Int × Int)) (l:List Int) {i:Nat}:∀ k,k<=i->(z1F ps l k).getD i 0=l.getD i 0
 | 0,_=>rfl
 | k+1,h=>by
  rw [z1F]
  split
  ·rw [<-z2J ps l (i:=i) k (by omega)];simp only [List.getD,List.getElem?_set_ne (show k ≠ i by omega)]
  ·exact z2J ps l k (by omega)
def zfj (ps:List (Int × Int)) (k:Nat) (x:Int):Int:=if (sd ps k).1=1 then max x (sd ps k).2 else x
theorem zdd (ps:List (Int × Int)) (l:List Int) {i:Nat} (hi:i < l.length):∀ k,i < k->(z1F ps l k).getD i 0=zfj ps i (l.getD i 0)
 | k+1,h=>by
  rw [z1F];by_cases e:i=k
  ·subst e;rw [z2J ps l i lR];have hl:i < (z1F ps l i).length:=(by rw [z1u];exact hi);unfold zfj
   split
   ·simp [List.getD,hl]
   ·exact z2J ps l i lR
  ·rw [<-zdd ps l hi k (by omega)]
   split
   ·simp only [List.getD,List.getElem?_set_ne (show k ≠ i by omega)]
   ·rfl
def z3i (t:T) (x:GC):Int:=(z0E (zZ (zR t x)):Nat)
def zG (t:T):Nat:=(Z t).cols.toNat
def z22 (t:T) (p:GC->Int):List Int:=z0T p t.gap (Z t).cells (z02 (zG t)) 4
def zB (t:T):List Int:=z1F t.cols (z22 t (z3i t)) (zG t)
theorem z2K (t:T) (p:GC->Int):(z22 t p).length=zG t:=by unfold z22;rw [z3v];simp [z02]
theorem z1m (t:T):(zB t).length=zG t:=by unfold zB;rw [z1u,z2K]
theorem z4k {t:T} {C:Nat} (h:(Z t).cols=C):zG t=C:=by unfold zG;rw [h];exact Int.toNat_natCast C
theorem z5v {t:T} (hD:z0g t) {p:GC->Int} (hp:∀ x,p x<=30):UpB (z22 t p) 4800:=by
 obtain ⟨h40,C,hgc,hC,hcel⟩:=z35 hD;unfold z22;rw [z4k hgc];exact z8N hcel h40 (by simp [z02]) hp (zaS _) 4 (by omega)
theorem z9s {t:T} {k:Nat} (hk:k < zG t):(sd t.cols k).1=1->0<=(sd t.cols k).2/\(sd t.cols k).2<=60:=by
 intro h1
 cases h:zF t with
 | false=>unfold zG at hk;rw [zcI h] at hk;exact absurd hk (Nat.not_lt_zero _)
 | true =>
  simp only [zF,z2k,Bool.and_eq_true,List.all_eq_true] at h;by_cases hl:k < t.cols.length
  ·rw [z8p hl] at h1 |-;have:=h.2.2.2.1.2 (t.cols.getD k (0,0)) (by rw [show t.cols.getD k (0,0)=t.cols[k] by simp [List.getD,hl]];exact List.getElem_mem hl);simp only [z2w,decide_eq_true_eq] at this;omega
  ·rw [zaa (z33 (by omega))] at h1;simp at h1
theorem zfk {t:T} {k:Nat} (hk:k < zG t):(zB t).getD k 0=zfj t.cols k ((z22 t (z3i t)).getD k 0):=by
 unfold zB;exact zdd _ _ (by rw [z2K];exact hk) _ hk
theorem z8q (t:T) (x:GC):0<=z3i t x/\z3i t x<=30:=by
 unfold z3i;have:=z58 (zZ (zR t x));omega
theorem z44 {t:T} (hD:z0g t):UpB (zB t) 5000:=by
 intro i hi;rw [z1m] at hi;rw [zfk hi];have h1:=z5v hD (λx=>(z8q t x).2) i (by rw [z2K];exact hi);have h2:=z9s hi;unfold zfj
 split
 ·have:=h2 (by assumption);omega
 ·omega
def z2Y (a b:List Int):Nat->List Int
 | 0=>a
 | k+1=>(z2Y a b k).set k (max (a.getD k 0) (b.getD k 0))
theorem z36 (a b:List Int):∀ k,(z2Y a b k).length=a.length
 | 0=>rfl
 | k+1=>by rw [z2Y,List.length_set];exact z36 a b k
theorem z8s (a b:List Int) {i:Nat}:∀ k,k<=i->(z2Y a b k).getD i 0=a.getD i 0
 | 0,_=>rfl
 | k+1,h=>by
  rw [z2Y,<-z8s a b (i:=i) k (by omega)];simp only [List.getD,List.getElem?_set_ne (show k ≠ i by omega)]
theorem zde (a b:List Int) {i:Nat} (hi:i < a.length):∀ k,i < k->(z2Y a b k).getD i 0=max (a.getD i 0) (b.getD i 0)
 | k+1,h=>by
  rw [z2Y];by_cases e:i=k
  ·subst e;have hl:i < (z2Y a b i).length:=(by rw [z36];exact hi);simp only [List.getD,List.getElem?_set_self hl,Option.getD_some]
  ·rw [<-zde a b hi k (by omega)];simp only [List.getD,List.getElem?_set_ne (show k ≠ i by omega)]
def z4l (t:T) (x:GC):Int:=(z2A (zR t x):Nat)
theorem z9t (t:T) (x:GC):0<=z4l t x/\z4l t x<=30:=by
 unfold z4l;have:=z8r (zR t x);omega
def z24 (t:T):List Int:=z2Y (z22 t (z4l t)) (zB t) (zG t)
theorem z5P (t:T):(z24 t).length=zG t:=by unfold z24;rw [z36,z2K]
theorem zbP {t:T} {k:Nat} (hk:k < zG t):(z24 t).getD k 0=max ((z22 t (z4l t)).getD k 0) ((zB t).getD k 0):=by
 unfold z24;exact zde _ _ (by rw [z2K];exact hk) _ hk
theorem z7E {t:T} (hD:z0g t):UpB (z24 t) 5000:=by
 intro i hi;rw [z5P] at hi;rw [zbP hi];have h1:=z5v hD (λx=>(z9t t x).2) i (by rw [z2K];exact hi);have h2:=z44 hD i (by rw [z1m];exact hi);omega
def zo (t:T) (q:Int) (k:Nat):Bool:=decide ((sd t.cols k).1=q)
def z0D (t:T) (width:Int):Int:=width - ((zB t).sum+t.gap * ((zG t:Int) - 1))
def z11 (t:T) (width:Int) (l:List Int):List Int:=(List.range l.length).map (λk=>if zo t 2 k=true then max 0 (width * (sd t.cols k).2 / 100 - l.getD k 0) else 0)
def z12 (t:T) (l:List Int):List Int:=(List.range l.length).map (λk=>if zo t 0 k=true then max 0 ((z24 t).getD k 0 - l.getD k 0) else 0)
def z13 (t:T) (width:Int):List Int:=z1o (zB t) (z0F (z0D t width) (z11 t width (zB t)))
def z1M (t:T) (width:Int):Int:=z2l (z0D t width) (z11 t width (zB t))
def z1W (t:T) (width:Int):List Int:=z1o (z13 t width) (z0F (z1M t width) (z12 t (z13 t width)))
def z1N (t:T) (width:Int):Int:=z2l (z1M t width) (z12 t (z13 t width))
def z08 (t:T) (width:Int):List Int :=
 if z0D t width<=0 then zB t
 else if 0 < (zn (zo t 0) (zG t)).length then z1o (z1W t width) (zy (z1N t width) (z0G (zo t 0) (zG t)))
 else if 0 < (zn (zo t 2) (zG t)).length then z1o (z1W t width) (zy (z1N t width) (z0G (zo t 2) (zG t)))
 else z1W t width
theorem z5y {a b:List Int} (h:b.length=a.length):(z1o a b).length=a.length:=by unfold z1o;rw [List.length_zipWith,h];omega
theorem z9u {a b:List Int} (h:b.length=a.length):(z1o a b).sum=a.sum+b.sum:=zeI a b h.symm
theorem z4I {a b:List Int} (h:b.length=a.length) {i:Nat} (hi:i < a.length):(z1o a b).getD i 0=a.getD i 0+b.getD i 0:=by
 have hb:i < b.length:=(by omega);have hz:i < (List.zipWith (·+·) a b).length:=(by rw [List.length_zipWith];omega);unfold z1o;simp only [List.getD,List.getElem?_eq_getElem hi,List.getElem?_eq_getElem hb,List.getElem?_eq_getElem hz,Option.getD_some,List.getElem_zipWith]
theorem z38 (t:T) (width:Int) (l:List Int):(z11 t width l).length=l.length:=by simp [z11]
theorem z2L (t:T) (l:List Int):(z12 t l).length=l.length:=by simp [z12]
theorem z4X {t:T} {width:Int} {l:List Int} {k:Nat} (h:k < l.length):(z11 t width l).getD k 0=if zo t 2 k=true then max 0 (width * (sd t.cols k).2 / 100 - l.getD k 0) else 0:=by simp [z11,List.getD,h]
theorem z4Y {t:T} {l:List Int} {k:Nat} (h:k < l.length):(z12 t l).getD k 0=if zo t 0 k=true then max 0 ((z24 t).getD k 0 - l.getD k 0) else 0:=by simp [z12,List.getD,h]
theorem zfl {t:Int} {l:List Int} (ht:0<=t/\t<=100000) (hl:l.length<=100) (h:∀ i,i < l.length->0<=l.getD i 0/\l.getD i 0<=100000):zI t l=true:=by
 simp only [zI,Bool.and_eq_true,decide_eq_true_eq,List.all_eq_true];refine ⟨⟨by simp only [wtB,decide_eq_true_eq];exact ht,hl⟩,λx hx=>?_⟩;obtain ⟨i,hi,rfl⟩:=List.mem_iff_getElem.1 hx;have:=h i hi;rw [show l.getD i 0=l[i] by simp [List.getD,hi]] at this;simp only [wtB,decide_eq_true_eq];exact this
theorem z25 {t:Int} {l:List Int} (hok:zI t l=true):(z0F t l).length=l.length/\(z0F t l).sum+z2l t l=t/\0<=z2l t l/\z2l t l<=t/\∀ i,i < l.length->0<=(z0F t l).getD i 0/\(z0F t l).getD i 0<=l.getD i 0:=by
 obtain ⟨ht,hlen,hw⟩:=z0d hok;have hg:∀ i,i < l.length->0<=l.getD i 0:=λi hi=>(z2P hw hi).1;by_cases hs:l.sum<=t
 ·rw [(z46 hok hs).1,(z46 hok hs).2];have h0:0<=l.sum:=(z2G hw).1;exact ⟨rfl,by omega,by omega,by omega,λi hi=>⟨hg i hi,Int.le_refl _⟩⟩
 ·rw [(z37 hok hs).1,(z37 hok hs).2]
  have hpos:0 < l.length:=by
   cases l with
   | nil=>simp at hs;omega
   | cons _ _=>simp
  exact ⟨z1B hok,by rw [z3m hok hpos];omega,Int.le_refl _,ht.1,λi hi=>zfg hok (by omega) hi⟩
theorem z7a {t:T} {k:Nat} (hk:k < zG t):((sd t.cols k).1=0)\/((sd t.cols k).1=1/\0<=(sd t.cols k).2/\(sd t.cols k).2<=60)\/((sd t.cols k).1=2/\1<=(sd t.cols k).2/\(sd t.cols k).2<=100):=by
 cases h:zF t with
 | false=>unfold zG at hk;rw [zcI h] at hk;exact absurd hk (Nat.not_lt_zero _)
 | true =>
  simp only [zF,z2k,Bool.and_eq_true,List.all_eq_true] at h;by_cases hl:k < t.cols.length
  ·rw [z8p hl];have:=h.2.2.2.1.2 (t.cols.getD k (0,0)) (by rw [show t.cols.getD k (0,0)=t.cols[k] by simp [List.getD,hl]];exact List.getElem_mem hl);simp only [z2w,decide_eq_true_eq] at this;omega
  ·rw [zaa (z33 (by omega))];exact .inl rfl
theorem zac {width n:Int} (hw:0<=width/\width<=300) (hn:1<=n/\n<=100):0<=width * n / 100/\width * n / 100<=300:=by
 have h1:0<=width * n:=Int.mul_nonneg hw.1 (by omega);have h2:width * n<=300 * 100:=Int.mul_le_mul hw.2 hn.2 (by omega) (by omega);omega
theorem z47 {t:T} (hD:z0g t) (hok:zF t=true) {width:Int} (hw:0<=width/\width<=300) (hr:0 < z0D t width) :
  zI (z0D t width) (z11 t width (zB t))=true/\zI (z1M t width) (z12 t (z13 t width))=true/\(0<=z1N t width/\z1N t width<=300)/\(z13 t width).length=zG t/\(z1W t width).length=zG t/\(z1W t width).sum+z1N t width=(zB t).sum+z0D t width /\
  (∀ k,k < zG t->(zB t).getD k 0<=(z13 t width).getD k 0/\(z13 t width).getD k 0<=(z1W t width).getD k 0/\(zo t 2 k=false->(z13 t width).getD k 0=(zB t).getD k 0)/\(zo t 0 k=false->(z1W t width).getD k 0=(z13 t width).getD k 0)):=by
 obtain ⟨_,C,hgc,hC,hcel⟩:=z35 hD;have hCN:=z4k hgc;have hlen:=z1m t;have hup:=z44 hD;have hsb:=z5t (l:=zB t) (B:=5000) (λx hx=>hup.mem hx)
 have hC1:1<=zG t:=by
  have h1:(Z t).cols=z0x (max 1 (t.cols.length:Int)) (zU t):=(by rw [z2z hok]);have h2:=z3Z (zU t) (max 1 (t.cols.length:Int));unfold zG;omega
 have hg:0<=t.gap/\t.gap<=3:=by
  simp only [zF,zM,Bool.and_eq_true,decide_eq_true_eq] at hok;exact hok.2.2.1
 have hgap:0<=t.gap * ((zG t:Int) - 1):=Int.mul_nonneg hg.1 (by omega);have hr300:z0D t width<=300:=(by unfold z0D;omega)
 have ok1:zI (z0D t width) (z11 t width (zB t))=true:=zfl (by omega) (by rw [z38,hlen];omega) (λi hi=>by
  rw [z38] at hi;rw [z4X hi];have hu:=hup i hi
  split
  ·rename_i hp
   have hk:=z7a (t:=t) (k:=i) (by rw [<-hlen];exact hi);simp only [zo,decide_eq_true_eq] at hp;have:=zac hw (n:=(sd t.cols i).2) (by omega);omega
  ·omega)
 obtain ⟨l1,s1,n1,m1,e1⟩:=z25 ok1;rw [z38] at l1 e1;have ho1:(z13 t width).length=zG t:=(by unfold z13;rw [z5y l1,hlen]);have g1:∀ k,k < zG t->(z13 t width).getD k 0=(zB t).getD k 0+(z0F (z0D t width) (z11 t width (zB t))).getD k 0:=λk hk=>by unfold z13;exact z4I l1 (by rw [hlen];exact hk)
 have hl1:0<=z1M t width/\z1M t width<=300:=(by unfold z1M;omega)
 have ok2:zI (z1M t width) (z12 t (z13 t width))=true:=zfl (by omega) (by rw [z2L,ho1];omega) (λi hi=>by
  rw [z2L] at hi;rw [z4Y hi];have hi':i < zG t:=(by rw [<-ho1];exact hi);have hwu:=z7E hD i (by rw [z5P];exact hi');have h3:=g1 i hi';have h4:=hup i (by rw [hlen];exact hi');have h5:=e1 i (by rw [hlen];exact hi')
  split <;> omega)
 obtain ⟨l2,s2,n2,m2,e2⟩:=z25 ok2;rw [z2L] at l2 e2;have ho2:(z1W t width).length=zG t:=(by unfold z1W;rw [z5y l2,ho1]);have g2:∀ k,k < zG t->(z1W t width).getD k 0=(z13 t width).getD k 0+(z0F (z1M t width) (z12 t (z13 t width))).getD k 0:=λk hk=>by unfold z1W;exact z4I l2 (by rw [ho1];exact hk)
 refine ⟨ok1,ok2,by unfold z1N;omega,ho1,ho2,?_,λk hk=>?_⟩
 ·have a1:(z13 t width).sum=(zB t).sum+(z0F (z0D t width) (z11 t width (zB t))).sum:=(by unfold z13;exact z9u l1);have a2:(z1W t width).sum=(z13 t width).sum+(z0F (z1M t width) (z12 t (z13 t width))).sum:=(by unfold z1W;exact z9u l2);have a3:z1M t width=z2l (z0D t width) (z11 t width (zB t)):=rfl;have a4:z1N t width=z2l (z1M t width) (z12 t (z13 t width)):=rfl;rw [a2,a1,a4];omega
 ·have b1:=e1 k (by rw [hlen];exact hk);have b2:=e2 k (by rw [ho1];exact hk);rw [z4X (by rw [hlen];exact hk)] at b1;rw [z4Y (by rw [ho1];exact hk)] at b2;have c1:=g1 k hk;have c2:=g2 k hk;refine ⟨by omega,by omega,λh=>?_,λh=>?_⟩
  ·rw [if_neg (by rw [h];simp)] at b1;omega
  ·rw [if_neg (by rw [h];simp)] at b2;omega
theorem z9v {P:Nat->Bool} {n:Nat}:(z0G P n).sum=((zn P n).length:Int):=by
 have hz:∀ i,i < (z0G P n).length->P i=false->(z0G P n).getD i 0=0:=λi hi hP=>by
  rw [z14] at hi;rw [z5x hi,if_neg (by rw [hP];simp)]
 have:=z5w (l:=z0G P n) (P:=P) (z0G P n).length lR hz;rw [z1t,z14,zb0,z6p] at this;exact this.symm
theorem z6K {P:Nat->Bool} {n:Nat} (h:¬ 0 < (zn P n).length) {k:Nat} (hk:k < n):P k=false:=by
 cases hP:P k with
 | false=>rfl
 | true =>
  have:k ∈ zn P n:=(by unfold zn;rw [List.mem_filter];exact ⟨List.mem_range.2 hk,hP⟩);exact absurd (List.length_pos_of_mem this) h
theorem zad {P:Nat->Bool} {n:Nat} {t:Int} {l:List Int} (hl:l.length=n) (hn:n<=100) (ht:0<=t/\t<=300) (h0:0 < (zn P n).length) :
  (z1o l (zy t (z0G P n))).length=n/\(z1o l (zy t (z0G P n))).sum=l.sum+t/\∀ k,k < n->l.getD k 0<=(z1o l (zy t (z0G P n))).getD k 0/\(P k=false->(z1o l (zy t (z0G P n))).getD k 0=l.getD k 0):=by
 have hok:=z3j P (n:=n) (t:=t) (by omega) hn;have hs:=z1B hok;rw [z14] at hs
 have hpos:0 < n:=by
  have:=(z3w h0).1;omega
 refine ⟨by rw [z5y (by rw [hs,hl]),hl],by rw [z9u (by rw [hs,hl]),z3m hok (by rw [z14];exact hpos)],λk hk=>?_⟩;rw [z4I (by rw [hs,hl]) (by rw [hl];exact hk)];have h1:=z1G (t:=t) (l:=z0G P n) k (by rw [hs];exact hk);refine ⟨by omega,λhP=>?_⟩;rw [z5Z hok (by rw [z9v];omega) (by rw [z14];exact hk) (by rw [z5x hk,if_neg (by rw [hP];simp)])];omega
def z8v (t:T):Bool:=(List.range (zG t)).all (λk=>zo t 1 k)
theorem zbT {t:T} (hD:z0g t) (hok:zF t=true) {width:Int} (hw:0<=width/\width<=300) :
  (z08 t width).length=zG t/\(z08 t width).sum+t.gap * ((zG t:Int) - 1)=(if width < (zB t).sum+t.gap * ((zG t:Int) - 1)\/z8v t=true then (zB t).sum+t.gap * ((zG t:Int) - 1) else width) /\
  ∀ k,k < zG t->(zB t).getD k 0<=(z08 t width).getD k 0/\(zo t 1 k=true->(z08 t width).getD k 0=(zB t).getD k 0):=by
 obtain ⟨_,C,hgc,hC,hcel⟩:=z35 hD;have hCN:=z4k hgc
 have hk1:∀ k,zo t 1 k=true->zo t 0 k=false/\zo t 2 k=false:=λk h=>by
  simp only [zo,decide_eq_true_eq] at h;simp [zo,h]
 by_cases hr:z0D t width<=0
 ·have e:z08 t width=zB t:=(by unfold z08;rw [if_pos hr]);rw [e];refine ⟨z1m t,?_,λk _=>⟨Int.le_refl _,λ_=>rfl⟩⟩;unfold z0D at hr
  split
  ·rfl
  ·rename_i hn
   have:¬ width < (zB t).sum+t.gap * ((zG t:Int) - 1):=λh=>hn (.inl h);omega
 ·obtain ⟨_,_,hl2,_,ho2,hsum,hk⟩:=z47 hD hok hw (by omega);have hrr:z0D t width=width - ((zB t).sum+t.gap * ((zG t:Int) - 1)):=rfl;have hnl:¬ width < (zB t).sum+t.gap * ((zG t:Int) - 1):=(by omega);by_cases h0:0 < (zn (zo t 0) (zG t)).length
  ·have e:z08 t width=z1o (z1W t width) (zy (z1N t width) (z0G (zo t 0) (zG t))):=(by unfold z08;rw [if_neg hr,if_pos h0]);obtain ⟨a1,a2,a3⟩:=zad ho2 (by omega) hl2 h0
   have hnf:¬ z8v t=true:=λh=>by
    have hg:=z3w h0;have:=List.all_eq_true.1 h _ (List.mem_range.2 hg.1);have:=(hk1 _ this).1;rw [hg.2] at this
    cases this
   rw [e];refine ⟨a1,?_,λk hkk=>?_⟩
   ·rw [if_neg (by rintro (h | h);exact hnl h;exact hnf h),a2];omega
   ·have b1:=a3 k hkk;have b2:=hk k hkk;refine ⟨by omega,λh=>?_⟩;have c:=hk1 k h;rw [b1.2 c.1,b2.2.2.2 c.1,b2.2.2.1 c.2]
  ·by_cases h2:0 < (zn (zo t 2) (zG t)).length
   ·have e:z08 t width=z1o (z1W t width) (zy (z1N t width) (z0G (zo t 2) (zG t))):=(by unfold z08;rw [if_neg hr,if_neg h0,if_pos h2]);obtain ⟨a1,a2,a3⟩:=zad ho2 (by omega) hl2 h2
    have hnf:¬ z8v t=true:=λh=>by
     have hg:=z3w h2;have:=List.all_eq_true.1 h _ (List.mem_range.2 hg.1);have:=(hk1 _ this).2;rw [hg.2] at this
     cases this
    rw [e];refine ⟨a1,?_,λk hkk=>?_⟩
    ·rw [if_neg (by rintro (h | h);exact hnl h;exact hnf h),a2];omega
    ·have b1:=a3 k hkk;have b2:=hk k hkk;refine ⟨by omega,λh=>?_⟩;have c:=hk1 k h;rw [b1.2 c.2,b2.2.2.2 c.1,b2.2.2.1 c.2]
   ·have e:z08 t width=z1W t width:=(by unfold z08;rw [if_neg hr,if_neg h0,if_neg h2])
    have hfx:z8v t=true:=List.all_eq_true.2 (λk hkr=>by
     have hkk:=List.mem_range.1 hkr;have n0:=z6K h0 hkk;have n2:=z6K h2 hkk;have:=z7a hkk;simp only [zo,decide_eq_false_iff_not] at n0 n2;simp only [zo,decide_eq_true_eq]
     omega)
    have heq:z1W t width=zB t:=by
     apply List.ext_getElem (by rw [ho2,z1m]);intro i h1 h3;have hi:i < zG t:=(by rw [ho2] at h1;exact h1);have b:=hk i hi;have:=(b.2.2.2 (z6K h0 hi)).trans (b.2.2.1 (z6K h2 hi))
     simpa [List.getD,h1,h3] using this
    rw [e,heq];refine ⟨z1m t,by rw [if_pos (.inr hfx)],λk _=>⟨Int.le_refl _,λ_=>rfl⟩⟩
def z5S (t:T) (width:Int):List Int:=if (zF t && zM width 0 300)=true then z08 t width else []
def z8Q (t:T) (l:List Int) (x:GC):List ByteArray:=z01 (z1f (z2t l t.gap x) (zZ (zR t x)))
def z0V (t:T) (l:List Int) (gs:List GC):List (List ByteArray):=gs.map (z8Q t l)
def z5a (t:T) (width:Int):List (List ByteArray):=if (zF t && zM width 0 300)=true then z0V t (z08 t width) (Z t).cells else []
theorem zbU (l:List Int) (gap:Int) (x:GC):-9223372036854775808<=z2t l gap x/\z2t l gap x<=9223372036854775807:=by
 unfold z2t z1P
 split
 ·omega
 ·exact zhS _
theorem z3x (t:T) (l:List Int) (gs:List GC):(z0V t l gs).length=gs.length:=by simp [z0V]
theorem zfm (t:T) (l:List Int) {gs:List GC} {k:Nat} (h:k < gs.length):(z0V t l gs).getD k []=z8Q t l (gs.getD k dG):=by simp [z0V,List.getD,h]
theorem z9b (t:T) (l:List Int) {gs:List GC} {k:Nat} (h:k < gs.length):(z0V t l gs).take (k+1)=(z0V t l gs).take k ++ [z8Q t l (gs.getD k dG)]:=by
 rw [List.take_succ_eq_append_getElem (by rw [z3x];exact h)];simp [z0V,List.getD,h]
theorem zh3 (t:T) (l:List Int) (x:GC):(z8Q t l x).length<=31:=by
 have h1:=(zbO (z2t l t.gap x) (zZ (zR t x))).1;have h2:=z60 (zR t x);unfold z8Q;omega
theorem zfn (t:T) (l:List Int) (x:GC):∀ y ∈ z8Q t l x,y.size<=maxLen:=by
 refine zjH (n:=maxLen) ?_ _ (λy _=>?_)
 ·have:=(zbU l t.gap x).2;unfold maxLen;omega
 ·have:=y.2.2;unfold maxLen;omega
theorem z9c (t:T) (l:List Int) (gs:List GC):∀ k ∈ z0V t l gs,∀ y ∈ k,y.size<=maxLen:=by
 intro k hk y hy;obtain ⟨x,_,rfl⟩:=List.mem_map.1 hk;exact zfn t l x y hy
def z7b (t:T) (l:List Int):List Int:=z0i (rcs (Z t).cells (z0V t l (Z t).cells)) t.rows.length
def zH (t:T) (width:Int):List Int:=if (zF t && zM width 0 300)=true then z7b t (z08 t width) else []
theorem zfo {t:T} (hok:zF t=true):(Z t).rows=(t.rows.length:Nat):=by rw [z2z hok]
theorem zfp {t:T} (hD:z0g t) (hok:zF t=true):∀ k,k < (Z t).cells.length->∃ a m:Nat,((Z t).cells.getD k dG).row=a/\((Z t).cells.getD k dG).rows=m/\1<=m/\a+m<=t.rows.length:=by
 intro k hk;have hl:=z3S hok hD;rw [z2z hok] at hk |-;have hs:=z3Y hl (z2q (d:=dG) (show k < (zU t).length from hk));unfold z1z at hs;exact ⟨((zU t).getD k dG).row.toNat,((zU t).getD k dG).rows.toNat,by show ((zU t).getD k dG).row=_;omega,by show ((zU t).getD k dG).rows=_;omega,by omega,by omega⟩
theorem zj5 {t:T} (hD:z0g t) (hok:zF t=true) (j:Nat):∀ k,j<=k->k < (Z t).cells.length->((Z t).cells.getD j dG).row<=((Z t).cells.getD k dG).row
 | 0,h,_=>by
  obtain rfl:j=0:=by omega
  exact Int.le_refl _
 | k+1,h,hk=>by
  rcases Nat.lt_or_ge k j with h1 | h1
  ·obtain rfl:j=k+1:=by omega
   exact Int.le_refl _
  ·have ih:=zj5 hD hok j k h1 (by omega);have hl:=z3S hok hD;have hk':k+1 < (zU t).length:=(by rw [z2z hok] at hk;exact hk);have ha:=(z8K hl hk').after (by omega);rw [z2z hok] at ih |-;have e1:(⟨(t.rows.length:Int),z0x (max 1 (t.cols.length:Int)) (zU t),zU t⟩:G).cells=zU t:=rfl;rw [e1] at ih |-;have e2:k+1 - 1=k:=(by omega);rw [e2] at ha;omega
theorem ziF {t:T} (hD:z0g t):(Z t).cells.length<=40:=(z35 hD).1
theorem zfq {t:T} (hD:z0g t) (hok:zF t=true):t.rows.length<=8:=(z3S hok hD).rows
theorem zck (t:T) (l:List Int) (gs:List GC):∀ k,k < gs.length->((z0V t l gs).getD k []).length<=1000:=λk hk=>by
 rw [zfm t l hk];have:=zh3 t l (gs.getD k dG);omega
theorem zj6 (t:T) (l:List Int) (gs:List GC):∀ c ∈ rcs gs (z0V t l gs),c.2.2<=1000:=zeD (z3x t l gs) (λk hk=>by have:=zck t l gs k hk;show (((z0V t l gs).getD k []).length:Int)<=1000;omega)
theorem zh4 {l:List Int} {x:GC} {a m:Nat} (hr:x.row=a) (hm:x.rows=m) (h1:1<=m) (h2:a+m<=l.length) (hb:-9223372036854775808<=zK l (a+m) - zK l a/\zK l (a+m) - zK l a<=9223372036854775807):z7G l x=zK l (a+m) - zK l a:=by
 obtain ⟨e1,e2⟩:=zdi (l:=l) (x:=zdj x) (c:=a) (m:=m) hr hm l.length lR;have e3:min l.length (a+m)=a+m:=(by omega);have e4:min l.length a=a:=(by omega);rw [e3,e4] at e2;unfold z7G z2t;rw [z3k (by rw [e1];omega),e2,Int.zero_mul,Int.add_zero,z32 hb]
theorem zkk (cs:List z0O) (R r k:Nat) {a:Nat} (ha:a<=r):zK (hsL cs R r k) (r+1) - zK (hsL cs R r k) a=(z0i cs r).sum - zK (z0i cs r) a+z3h cs r k:=by
 have h1:zK (hsL cs R r k) a=zK (z0i cs r) a:=by
  rw [zK,zK,hsL,List.take_append_of_le_length (by rw [z0M];exact ha)]
 have h2:zK (hsL cs R r k) (r+1)=(z0i cs r).sum+z3h cs r k:=by
  rw [zK,hsL,List.take_append,z0M,show r+1 - r=1 by omega,List.take_of_length_le (by rw [z0M];omega)];simp
 rw [h1,h2];omega
theorem zeJ {cs:List z0O} (hc:∀ c ∈ cs,c.2.2<=1000) {r:Nat} (hr:r<=88) (a:Nat):0<=(z0i cs r).sum - zK (z0i cs r) a/\(z0i cs r).sum - zK (z0i cs r) a<=88000:=by
 refine ⟨zaP (z5p cs r) a,?_⟩;have h1:(z0i cs r).sum=((z0i cs r).take a).sum+((z0i cs r).drop a).sum:=(by rw [<-List.sum_append,List.take_append_drop]);have h2:=zaV (l:=(z0i cs r).drop a) (λx hx=>⟨z5p cs r x (List.mem_of_mem_drop hx),z7u (by omega) cs hc r x (List.mem_of_mem_drop hx)⟩);rw [List.length_drop,z0M] at h2;rw [zK];omega
theorem zjK {cs:List z0O} (hc:∀ c ∈ cs,c.2.2<=1000) {R r k:Nat} (hR:R<=88) (hr:r < R) {x:GC} {a m:Nat} (hrx:x.row=a) (hmx:x.rows=m) (h1:1<=m) (h2:a+m=r+1):z7G (hsL cs R r k) x=(z0i cs r).sum - zK (z0i cs r) a+z3h cs r k:=by
 have hs:=zkk cs R r k (show a<=r by omega);have hb:=zeJ hc (r:=r) (by omega) a;have hcb:=z6I (by omega) hc r k;rw [<-h2] at hs;rw [zh4 hrx hmx h1 (by rw [z8P cs k hr];omega) (by rw [hs];omega),hs]
theorem zjL {cs:List z0O} {R r k:Nat} (h:∀ j,k<=j->j < cs.length->∀ c,cs[j]?=some c->r < c.1/\1<=c.2.1):hsL cs R r k=hsL cs R r cs.length:=by
 have e:z3h cs r cs.length=z3h cs r k:=by
  rw [z3h,List.take_length,z3h];have h2:∀ f:Int->z0O->Int,cs.foldl f 0=(cs.drop k).foldl f ((cs.take k).foldl f 0):=λf=>by rw [<-List.foldl_append,List.take_append_drop]
  rw [h2];refine zbz _ _ _ (λc hc=>?_);rw [z0M];obtain ⟨i,hi,e⟩:=List.mem_iff_getElem.mp hc;rw [List.length_drop] at hi;refine h (k+i) (by omega) (by omega) c ?_;rw [List.getElem?_eq_getElem (by omega),<-e,List.getElem_drop]
 rw [hsL,hsL,e]
end
section
open Go.RowKit Go.BigFrame
def z2V (t:T) (x:GC):C:=(t.rows.getD x.row.toNat dR).cells.getD x.ins.toNat dC
theorem zfr (ac ar:Option Addr) (cc cr:Nat) (t:T) (x:GC) {C:Nat} (hx:Cel t C x) (w:World) {z:Nat} (hr:z05 w z (.slice ar t.rows.length cr) t.rows) :
  Calls prog 133 #[.agg #[.slice ac t.cols.length cc,int i64 t.head,int i64 t.foot,.slice ar t.rows.length cr,int i64 t.gap],.agg #[int i64 x.row,int i64 x.col,int i64 x.rows,int i64 x.cols,int i64 x.ins]] w λe w'=>e=.returned (.agg #[.string (z2V t x).s,int i64 (z2V t x).c,int i64 (z2V t x).r,int i64 (z2V t x).a1,int i64 (z2V t x).b1,int i64 (z2V t x).a2,int i64 (z2V t x).b2,int i64 (z2V t x).a3,int i64 (z2V t x).b3,int i64 (z2V t x).a4,int i64 (z2V t x).b4])/\(z2V t x).s.size<=maxLen/\Below w.heap.size w w':=by
 obtain ⟨rn,jn,cn,mn,e1,e2,e3,e4,h1,h2,h3,h4,h5⟩:=hx.ex;have HTx:Hid (z2V t x=(t.rows.getD rn dR).cells.getD jn dC):=(by rw [Hid,z2V,e1,e2,Int.toNat_natCast,Int.toNat_natCast]);have hmx:prog.follows .mixedOrders=true:=(by kernel_rfl);have K1:=ze (Below.refl w.heap.size w) (.cells #[.slice ac t.cols.length cc,int i64 t.head,int i64 t.foot,.slice ar t.rows.length cr,int i64 t.gap] 26);have X1:=zj w (.cells #[.slice ac t.cols.length cc,int i64 t.head,int i64 t.foot,.slice ar t.rows.length cr,int i64 t.gap] 26);have hs1:(w.alloc (.cells #[.slice ac t.cols.length cc,int i64 t.head,int i64 t.foot,.slice ar t.rows.length cr,int i64 t.gap] 26)).heap.size=w.heap.size+1:=(by simp);rw [e1,e2];clear e1 e2 e3 e4;go_enter func133,ntmps133;go_upto_region 1 with fail
 have K2:=ze K1 (.cells #[int i64 (rn:Int),int i64 x.col,int i64 x.rows,int i64 x.cols,int i64 (jn:Int)] 51);have X2:=zj (w.alloc (.cells #[.slice ac t.cols.length cc,int i64 t.head,int i64 t.foot,.slice ar t.rows.length cr,int i64 t.gap] 26)) (.cells #[int i64 (rn:Int),int i64 x.col,int i64 x.rows,int i64 x.cols,int i64 (jn:Int)] 51);have X1':=(Below.heap_alloc (w.alloc (.cells #[.slice ac t.cols.length cc,int i64 t.head,int i64 t.foot,.slice ar t.rows.length cr,int i64 t.gap] 26)) (.cells #[int i64 (rn:Int),int i64 x.col,int i64 x.rows,int i64 x.cols,int i64 (jn:Int)] 51) w.heap.size (by omega)).trans X1;rw [hs1] at X2;have hs2:((w.alloc (.cells #[.slice ac t.cols.length cc,int i64 t.head,int i64 t.foot,.slice ar t.rows.length cr,int i64 t.gap] 26)).alloc (.cells #[int i64 (rn:Int),int i64 x.col,int i64 x.rows,int i64 x.cols,int i64 (jn:Int)] 51)).heap.size=w.heap.size+2:=(by simp);generalize (w.alloc (.cells #[.slice ac t.cols.length cc,int i64 t.head,int i64 t.foot,.slice ar t.rows.length cr,int i64 t.gap] 26)).alloc (.cells #[int i64 (rn:Int),int i64 x.col,int i64 x.rows,int i64 x.cols,int i64 (jn:Int)] 51)=W2 at K2 X2 X1' hs2 |-;have K3:=ze K2 (.cells #[.string ⟨#[]⟩,int i64 0,int i64 0,int i64 0,int i64 0,int i64 0,int i64 0,int i64 0,int i64 0,int i64 0,int i64 0] 78);have X3:=zj W2 (.cells #[.string ⟨#[]⟩,int i64 0,int i64 0,int i64 0,int i64 0,int i64 0,int i64 0,int i64 0,int i64 0,int i64 0,int i64 0] 78);have X1'':=(Below.heap_alloc W2 (.cells #[.string ⟨#[]⟩,int i64 0,int i64 0,int i64 0,int i64 0,int i64 0,int i64 0,int i64 0,int i64 0,int i64 0,int i64 0] 78) w.heap.size (by omega)).trans X1';have X2':=(Below.heap_alloc W2 (.cells #[.string ⟨#[]⟩,int i64 0,int i64 0,int i64 0,int i64 0,int i64 0,int i64 0,int i64 0,int i64 0,int i64 0,int i64 0] 78) (w.heap.size+1) (by omega)).trans X2;rw [show W2.heap.size=w.heap.size+1+1 by omega] at X3;generalize W2.alloc (.cells #[.string ⟨#[]⟩,int i64 0,int i64 0,int i64 0,int i64 0,int i64 0,int i64 0,int i64 0,int i64 0,int i64 0,int i64 0] 78)=W at K3 X3 X1'' X2' |-;clear K1 X1 hs1 K2 X2 X1' hs2;obtain ⟨rb,roff,rcap,re,rc1,rc2,rbl,u,hu0,_,hu⟩:=At.get (hr.kept K3) h1;simp only [Value.slice.injEq,true_and] at re;obtain ⟨rfl,rfl⟩:=re;obtain ⟨qb,qoff,qcap,qe,qc1,qc2,qbl,hv,hsl⟩:=At.get hu h2;subst qe;obtain ⟨v0,v1,v2,v3,v4,v5,v6,v7,v8,v9,v10⟩:=hv;have l1:w.heap.size < W.heap.size:=(bL X1'');have l2:w.heap.size+1 < W.heap.size:=(bL X2');have hne:=z0H W;have m0:=zm (a:=⟨w.heap.size,3,none⟩) l1 (zf (p:=3) X1'');have m1:=zm (a:=⟨w.heap.size+1,0,none⟩) l2 (zf (p:=0) X2');have m2:=zm (a:=⟨w.heap.size+1,4,none⟩) l2 (zf (p:=4) X2');have m3:=zm rbl hu0;have n0:=zm qbl v0;have n1:=zm qbl v1;have n2:=zm qbl v2;have n3:=zm qbl v3;have n4:=zm qbl v4;have n5:=zm qbl v5;have n6:=zm qbl v6;have n7:=zm qbl v7;have n8:=zm qbl v8;have n9:=zm qbl v9;have n10:=zm qbl v10;have HSZ:Hid ((z2V t x).s.size<=maxLen):=(by rw [Hid,HTx.out];exact hsl);have HK:=O K3;have HX3:=O X3;unfold maxLen at rc2 qc2;generalize (t.rows.getD rn dR).cells.getD jn dC=y at *;generalize (t.rows.getD rn dR).cells.length=rl at h2 m3 qc1;clear hu hu0 hr h3 h4 h5 hx K3 X3 X1'' X2' v0 v1 v2 v3 v4 v5 v6 v7 v8 v9 v10 hsl;refine z1g 11 hmx (by rfl) (by rfl) (by kernel_rfl) (by kernel_rfl) ?_;simp only [List.take_succ_cons,List.take_zero];repeat (go_big_quiet_step (fail))
 refine wpQuiet_nil ?_;intro W5 hw';obtain ⟨⟨Wx,hW5⟩,hw''⟩:=hw';subst hw'';have l3:w.heap.size+1+1 < W.heap.size:=(bL HX3.out);have X5:=(hW5.block _ l3).trans HX3.out;obtain ⟨⟨c0,c1,c2,c3,c4,c5,c6,c7,c8,c9,c10⟩,f0,f1,f2,f3,f4,f5,f6,f7,f8,f9,f10⟩:=z1e X5;have HK5:=O (zi HK.out hW5);clear m0 m1 m2 m3 n0 n1 n2 n3 n4 n5 n6 n7 n8 n9 n10 hne hW5 X5;rw [if_pos (by rfl)];go_simp;go_wp2;exact bodyPost_ret (v:=.agg #[.string y.s,int i64 y.c,int i64 y.r,int i64 y.a1,int i64 y.b1,int i64 y.a2,int i64 y.b2,int i64 y.a3,int i64 y.b3,int i64 y.a4,int i64 y.b4]) (by simp [results,results133,go_sem,c0,c1,c2,c3,c4,c5,c6,c7,c8,c9,c10]) rfl ⟨by rw [HTx.out],HSZ.out,HK5.out.trans ((z2N W5 (w.heap.size+1+1) (.string y.s) (int i64 y.c) (int i64 y.r) (int i64 y.a1) (int i64 y.b1) (int i64 y.a2) (int i64 y.b2) (int i64 y.a3) (int i64 y.b3) (int i64 y.a4) (int i64 y.b4)).below HK5.out.size (by omega))⟩
end
section
open Go.RowKit
theorem z6M {t:T} {x:GC} {C:Nat} (hx:Cel t C x) {w:World} {z:Nat} {v:Value} (hr:z05 w z v t.rows):(zR t x).size<=maxLen:=by
 obtain ⟨rn,jn,cn,mn,e1,e2,e3,e4,h1,h2,h3,h4,h5⟩:=hx.ex;rw [zR,e1,e2,Int.toNat_natCast,Int.toNat_natCast];obtain ⟨rb,roff,rcap,re,rc1,rc2,rbl,u,hu0,_,hu⟩:=At.get hr h1;obtain ⟨qb,qoff,qcap,qe,qc1,qc2,qbl,hv,hsl⟩:=At.get hu h2;exact hsl
theorem ze3 (s:ByteArray) (x1 x2 x3 x4 x5 x6 x7 x8 x9 x10:Value) (W:World):(Instr.field 78 (.agg #[.string s,x1,x2,x3,x4,x5,x6,x7,x8,x9,x10]) 0).run prog W=.ok (.string s) W:=by kernel_rfl
theorem zag (ac ar:Option Addr) (cc cr:Nat) (t:T) (x:GC) {C:Nat} (hx:Cel t C x) (w:World) {z:Nat} (hr:z05 w z (.slice ar t.rows.length cr) t.rows) :
  Calls prog 102 #[.agg #[.slice ac t.cols.length cc,int i64 t.head,int i64 t.foot,.slice ar t.rows.length cr,int i64 t.gap],.agg #[int i64 x.row,int i64 x.col,int i64 x.rows,int i64 x.cols,int i64 x.ins]] w λe w'=>e=.returned (.string (zR t x))/\(zR t x).size<=maxLen/\Below w.heap.size w w':=by
 have HC:=O (zfr ac ar cc cr t x hx);have hfl:=ze3;have K2:=ze (ze (Below.refl w.heap.size w) (.cells #[.slice ac t.cols.length cc,int i64 t.head,int i64 t.foot,.slice ar t.rows.length cr,int i64 t.gap] 26)) (.cells #[int i64 x.row,int i64 x.col,int i64 x.rows,int i64 x.cols,int i64 x.ins] 51);have HR:=O (hr.kept K2);have HK:=O K2;clear hr hx K2;go_enter func102,ntmps102;go_wp2_with fail
 refine (HC.out _ HR.out).mono ?_;rintro e w1 ⟨rfl,hsz,hb1⟩;have HK1:=O (zi HK.out hb1);clear hb1 HK HR HC;go_wp2;go_ret;exact ⟨rfl,hsz,HK1.out⟩
def z3y (js:List Nat):List Int:=js.map (λk:Nat=>(k:Int))
theorem z2j (js:List Nat):(z3y js).length=js.length:=by simp [z3y]
theorem z9w {js:List Nat} {k:Nat} (h:k < js.length):(z3y js).getD k 0=((js.getD k 0:Nat):Int):=by simp [z3y,List.getD,h]
theorem zh7 (js:List Nat) (k:Nat):z3y (js ++ [k])=z3y js ++ [(k:Int)]:=by simp [z3y]
theorem ziG {P:Nat->Bool} {n:Nat} (h:P n=true):zn P (n+1)=zn P n ++ [n]:=by rw [z8t,if_pos h]
theorem zjM {P:Nat->Bool} {n:Nat} (h:P n=false):zn P (n+1)=zn P n:=by rw [z8t,if_neg (by rw [h];simp),List.append_nil]
theorem z4m (P:Nat->Bool) (n:Nat):(zn P n).length<=n:=by unfold zn;exact nT (List.length_filter_le _ _) (by simp)
theorem z8R {P:Nat->Bool} {n k:Nat} (h:k < (zn P n).length):(zn P n).getD k 0 < n/\P ((zn P n).getD k 0)=true:=by
 have e:(zn P n).getD k 0=(zn P n)[k]:=(by simp [List.getD,h]);rw [e];exact z3w h
def z5b (l:List Int) (k:Nat):List Int:=l.take k ++ List.replicate (l.length - k) 0
theorem z6N (l:List Int) {k:Nat} (h:k<=l.length):(z5b l k).length=l.length:=by simp [z5b];omega
theorem zah (l:List Int):z5b l 0=List.replicate l.length 0:=by simp [z5b]
theorem zbV (l:List Int):z5b l l.length=l:=by simp [z5b]
theorem zai {l:List Int} {k:Nat} (h:k < l.length):z5b l (k+1)=(z5b l k).set k (l.getD k 0):=by
 have e:List.replicate (l.length - k) (0:Int)=0 :: List.replicate (l.length - (k+1)) 0:=by
  rw [show l.length - k=(l.length - (k+1))+1 by omega,List.replicate_succ]
 have hl:(l.take k).length=k:=(by rw [List.length_take];omega);unfold z5b;rw [e,List.set_append_right _ _ (by omega),hl,Nat.sub_self,List.set_cons_zero,List.take_succ_eq_append_getElem h,show l.getD k 0=l[k] by simp [List.getD,h],List.append_assoc];rfl
structure Bk2 (r s:Nat) (w w':World):Prop where
 os:w'.os=w.os
 tape:w'.tape=w.tape
 output:w'.output=w.output
 size:w.heap.size<=w'.heap.size
 block:∀ k,k < w.heap.size->k ≠ r->k ≠ s->w'.heap[k]?=w.heap[k]?
theorem Bk2.refl (r s:Nat) (w:World):Bk2 r s w w:=⟨rfl,rfl,rfl,lR,λ_ _ _ _=>rfl⟩
theorem Bk2.trans {r s:Nat} {a b c:World} (h:Bk2 r s a b) (k:Bk2 r s b c):Bk2 r s a c :=
 ⟨k.os.trans h.os,k.tape.trans h.tape,k.output.trans h.output,nT h.size k.size,λi hi hr hs=>(k.block i (nL hi h.size) hr hs).trans (h.block i hi hr hs)⟩
theorem Bk2.of_below {r s:Nat} {w w':World} (h:Below w.heap.size w w'):Bk2 r s w w':=⟨h.os,h.tape,h.output,h.size,λk hk _ _=>h.block k hk⟩
theorem Bk2.set {r s:Nat} {a w:World} (h:Bk2 r s a w) {p:Addr} (hp:p.block=r\/p.block=s) (u:Value):Bk2 r s a (w.setCell p u) :=
 ⟨h.os,h.tape,h.output,by simpa [World.setCell] using h.size,λk hk hr hs=>(bS (by omega)).trans (h.block k hk hr hs)⟩
theorem Bk2.below {r s:Nat} {w w':World} (h:Bk2 r s w w') {n:Nat} (hn:n<=w.heap.size) (hr:n<=r) (hs:n<=s):Below n w w':=⟨h.os,h.tape,h.output,h.size,λk hk=>h.block k (by omega) (by omega) (by omega)⟩
theorem zq.bk2 {w w':World} {B D r s:Nat} {v:Value} {l:List Int} (h:zq w B D v l) (k:Bk2 r s w w') (hr:r < B\/D<=r) (hs:s < B\/D<=s):zq w' B D v l:=h.kept (λj h0 h1 h2=>k.block j h0 (by omega) (by omega))
def Sp (W:World) (sb:Nat) (ac ar:Option Addr) (cc cr:Nat) (t:T) (width:Int) (g cap C:Nat) (left:Int):Prop :=
 W.heap[sb]?=some (.cells #[.slice ac t.cols.length cc,int i64 t.head,int i64 t.foot,.slice ar t.rows.length cr,int i64 t.gap,int i64 width,.slice (some ⟨g,0,none⟩) C cap,int i64 left] 153)
theorem Sp.lt {W:World} {sb:Nat} {ac ar:Option Addr} {cc cr:Nat} {t:T} {width:Int} {g cap C:Nat} {left:Int} (h:Sp W sb ac ar cc cr t width g cap C left):sb < W.heap.size:=(bL h)
theorem Sp.kept {W W':World} {sb:Nat} {ac ar:Option Addr} {cc cr:Nat} {t:T} {width:Int} {g cap C:Nat} {left:Int} (h:Sp W sb ac ar cc cr t width g cap C left) (k:Below W.heap.size W W'):Sp W' sb ac ar cc cr t width g cap C left:=(k.block sb h.lt).trans h
theorem Sp.other {W:World} {sb:Nat} {ac ar:Option Addr} {cc cr:Nat} {t:T} {width:Int} {g cap C:Nat} {left:Int} (h:Sp W sb ac ar cc cr t width g cap C left) {p:Addr} (hp:sb ≠ p.block) (u:Value):Sp (W.setCell p u) sb ac ar cc cr t width g cap C left:=(bS hp).trans h
theorem Sp.left {W:World} {sb:Nat} {ac ar:Option Addr} {cc cr:Nat} {t:T} {width:Int} {g cap C:Nat} {left:Int} (h:Sp W sb ac ar cc cr t width g cap C left) (x:Int):Sp (W.setCell ⟨sb,7,none⟩ (int i64 x)) sb ac ar cc cr t width g cap C x:=(z0s h (p:=7) (int i64 x)).trans (by simp)
theorem z6v {l:List Int} {js:List Nat} {g:List Int} {M N:Int} (hM:0<=M) (hl:∀ i,0<=l.getD i 0/\l.getD i 0<=M) (hg:∀ i,0<=g.getD i 0/\g.getD i 0<=N):∀ (k:Nat) (i:Nat),0<=(z0U l js g k).getD i 0/\(z0U l js g k).getD i 0<=M+k * N
 | 0,i=>by have:=hl i;simp only [z0U];omega
 | k+1,i=>by
  have h0:=z6v (js:=js) hM hl hg k i;have h1:=z6v (js:=js) hM hl hg k (js.getD k 0);have h2:=hg k;have e:((k+1:Nat):Int) * N=k * N+N:=(by rw [Int.natCast_add,Int.add_mul];simp);rw [e];simp only [z0U];generalize js.getD k 0=j at h1 |-;generalize z0U l js g k=L at h0 h1 |-;generalize g.getD k 0=x at h2 |-;by_cases hi:i=j
  ·subst hi;by_cases hlen:i < L.length
   ·have e2:(L.set i (L.getD i 0+x)).getD i 0=L.getD i 0+x:=(by rw [List.getD,List.getElem?_set_self hlen,Option.getD_some]);rw [e2];omega
   ·rw [List.set_eq_of_length_le (by omega)];omega
  ·have e2:(L.set j (L.getD j 0+x)).getD i 0=L.getD i 0:=(by rw [List.getD,List.getElem?_set_ne (Ne.symm hi)];rfl);rw [e2];omega
theorem z6w {l:List Int} (h:∀ i,i < l.length->0<=l.getD i 0/\l.getD i 0<=100000):l.all wtB=true:=by
 rw [List.all_eq_true];intro x hx;obtain ⟨i,hi,rfl⟩:=List.mem_iff_getElem.1 hx;have:=h i hi;rw [show l.getD i 0=l[i] by simp [List.getD,hi]] at this;simp only [wtB,decide_eq_true_eq];exact this
theorem z7I {left:Int} {l:List Int} (hok:zI left l=true):(z0F left l).all wtB=true:=by
 obtain ⟨l1,_,_,_,e1⟩:=z25 hok;obtain ⟨_,_,hw⟩:=z0d hok;exact z6w (λi hi=>by have:=e1 i (by omega);have:=z2P hw (i:=i) (by omega);omega)
theorem zaj {L want:List Int} {P:Nat->Bool} {left:Int} (hl:want.length=L.length) (hok:zI left want=true) (hz:∀ i,i < want.length->P i=false->want.getD i 0=0) :
  zI left (z0k want P L.length)=true/\(z0F left (z0k want P L.length)).length=(zn P L.length).length/\(z0F left (z0k want P L.length)).all wtB=true/\left - (z0F left (z0k want P L.length)).sum=z2l left want /\
  z0U L (zn P L.length) (z0F left (z0k want P L.length)) (zn P L.length).length=z1o L (z0F left want):=by
 have hok':zI left (z0k want P L.length)=true:=(by rw [<-hl];exact zh2 hok);obtain ⟨e1,e2⟩:=ziD hok hz;rw [hl] at e1 e2;obtain ⟨a1,a2,a3,a4,a5⟩:=z25 hok;obtain ⟨b1,b2,b3,b4,b5⟩:=z25 hok';refine ⟨hok',by rw [b1,z2i],z7I hok',by rw [<-e2];omega,?_⟩;rw [e1];refine zdh (by omega) (λi hi hP=>?_);have:=a5 i (by omega);rw [hz i (by omega) hP] at this;omega
structure SpS (w0:World) (sb:Nat) (ac ar:Option Addr) (cc cr:Nat) (t:T) (width:Int) (g cap C D:Nat) (left:Int) (L:List Int) (W:World):Prop where
 bel:Below w0.heap.size w0 W
 sp:Sp W sb ac ar cc cr t width g cap C left
 row:zq W w0.heap.size D (.slice (some ⟨g,0,none⟩) C cap) L
theorem SpS.kept {w0:World} {sb:Nat} {ac ar:Option Addr} {cc cr:Nat} {t:T} {width:Int} {g cap C D:Nat} {left:Int} {L:List Int} {W W':World} (h:SpS w0 sb ac ar cc cr t width g cap C D left L W) (k:Below W.heap.size W W'):SpS w0 sb ac ar cc cr t width g cap C D left L W' :=
 ⟨zi h.bel k,h.sp.kept k,h.row.kept (λj h0 _ _=>k.block j h0)⟩
theorem SpS.bk {w0:World} {sb:Nat} {ac ar:Option Addr} {cc cr:Nat} {t:T} {width:Int} {g cap C D r:Nat} {left:Int} {L:List Int} {W W':World} (h:SpS w0 sb ac ar cc cr t width g cap C D left L W) (k:Bk r W W') (hr:w0.heap.size<=r) (h1:r ≠ sb) (h2:D<=r):SpS w0 sb ac ar cc cr t width g cap C D left L W' :=
 ⟨h.bel.trans (k.below h.bel.size hr),(k.block sb h.sp.lt (Ne.symm h1)).trans h.sp,h.row.kept (λj h0 _ h3=>k.block j h0 (by omega))⟩
theorem z8S (t:T) (q:Int) (k:Nat):((sd t.cols k).1 == q)=zo t q k:=by rw [Bool.eq_iff_iff];simp [zo]
theorem z7J (sb:Nat) (ac ar:Option Addr) (cc cr:Nat) (t:T) (width:Int) (g cap C:Nat) (left q:Int) (hC:C<=88) (w:World) {z:Nat} (hS:Sp w sb ac ar cc cr t width g cap C left) (hc:z09 w z (.slice ac t.cols.length cc) t.cols) :
  Calls prog 147 #[.pointer (some ⟨sb,0,none⟩),int i64 q] w λe w'=>∃ v,e=.returned v/\zq w' w.heap.size w'.heap.size v (z3y (zn (zo t q) C))/\Below w.heap.size w w':=by
 obtain ⟨i0,hi,hz0,hz1,hz2⟩:=info_parts z79;have hf0:=zdl;have HS:=O hS;have HC:=O hc;have s6:w.cell? ⟨sb,6,none⟩=some (.slice (some ⟨g,0,none⟩) C cap):=zf hS;clear hS hc;go_enter func147,ntmps147;go_wp2_with fail
 clear s6;go_loopw [5,12] (λo i W=>∃ k:Nat,i=int i64 k/\k<=C/\Hid (W.ownsRow w.heap.size 3 1 o (z3y (zn (zo t q) k)).length ((z3y (zn (zo t q) k)).map (Value.int .i64)))/\Hid (Below w.heap.size w W)) (λ_ i _=>C - (intOf i).toNat)
 case atStart=>exact ⟨0,rfl,nZ,⟨by simp [z3y,zn],.inl ⟨rfl,by simp [z3y,zn]⟩⟩,bR⟩
 case round =>
  obtain ⟨k,rfl,hk,HO,HB⟩:=hrel;by_cases hlt:k < C
  case neg =>
   obtain rfl:k=C:=by omega
   have HR:=O (zq.of_owns HO.out);go_wp2;go_ret;exact ⟨_,rfl,HR.out.base lR lR,HB.out⟩
  have s0:wr.cell? ⟨sb,0,none⟩=some (.slice ac t.cols.length cc):=zf (HS.out.kept HB.out);have KS:=O (zak _ t.cols (k:Int) wr (HC.out.kept HB.out));have hkq:=z8S t q k;have hol:(z3y (zn (zo t q) k)).length<=k:=(by rw [z2j];exact z4m _ _);generalize sd t.cols k=p at KS hkq
  cases hp:zo t q k with
  | false =>
   have HL:Hid (z3y (zn (zo t q) (k+1))=z3y (zn (zo t q) k)):=(by rw [Hid,zjM hp]);rw [hp] at hkq;clear hp;go_wp2_with fail
   refine KS.out.mono ?_;rintro e w1 ⟨rfl,hb1⟩;have HB1:=O (zi HB.out hb1);have HO1:=O (zq.of_owns HO.out |>.kept (λj h0 _ _=>hb1.block j h0));clear hb1 s0;go_wp2;go_roundw
   case rel=>exact ⟨k+1,by go_num,by omega,by rw [HL.out];exact HO1.out.owns,HB1⟩
   case measure=>simp [intOf];omega
  | true =>
   have HL:Hid (z3y (zn (zo t q) (k+1))=z3y (zn (zo t q) k) ++ [(k:Int)]):=(by rw [Hid,ziG hp,zh7]);rw [hp] at hkq;clear hp;generalize z3y (zn (zo t q) k)=xs at HO HL hol;go_wp2_with fail
   refine KS.out.mono ?_;rintro e w1 ⟨rfl,hb1⟩;have HB1:=O (zi HB.out hb1);have hO4:=(zq.of_owns HO.out |>.kept (λj h0 _ _=>hb1.block j h0)).owns;have hsz:w.heap.size<=w1.heap.size:=HB1.out.size;clear hb1 s0;go_wp2_with (at_builtin;refine wpList_append_own _ rfl _ _ 27 rfl w.heap.size 3 i0 (int i64 0) 1 8 underlying27 hi hz0 hz1 hz2 rfl (by decide) _ _ _ rfl (hO4.alloc _) ⟨w1.heap.size,0,none⟩ 1 1 [int i64 (k:Int)] rfl rfl ?c1 ?c2 ?c3 ?c4 ?c5 ?_)
   case c1 =>
    intro i u hi
    match i,hi with
    | 0,hi=>simp at hi;subst hi;simp [Addr.add]
   case c2=>intro u hu;simp at hu;subst hu;rfl
   case c3=>unfold maxLen;omega
   case c4=>omega
   case c5=>simp;omega
   intro v' w5 hown' hgrow' _;obtain ⟨hB5,_⟩:=z3o lR hO4 HB1.out hgrow';have HB5:=O hB5;have HO5:Hid (w5.ownsRow w.heap.size 3 1 v' (xs ++ [(k:Int)]).length ((xs ++ [(k:Int)]).map (Value.int .i64))):=(by rw [List.length_append,List.map_append];exact hown');obtain ⟨g',cap'',rfl⟩:=Joins.ownsRow_form hown' (by omega);clear hown' hgrow' hO4 hB5 HO HB HB1;go_wp2;go_roundw
   case rel=>exact ⟨k+1,by go_num,by omega,by rw [HL.out];exact HO5,HB5⟩
   case measure=>simp [intOf];omega
end
end Go.Proofs.YtggmjiddadjilahGreat
