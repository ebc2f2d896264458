/-
  PROVED HERE: columns made wide enough for all cells of a drawn table's grid, as lists: first for those over one column, then over two, and so on; what is known of each cell. Also: 15 more texts of the same proof.
-/
import Derived.Test.YtggmjiddadjilahGreatE27
import Derived.Test.YtggmjiddadjilahGreatE10
import Derived.Test.YtggmjiddadjilahGreatE21
set_option maxRecDepth 1000000
set_option maxHeartbeats 40000000
namespace Go.Proofs.YtggmjiddadjilahGreat
section
open Go.RowKit
def z1z (p:GC→Int) (gap s:Int) (gs:List GC) (l:List Int):Nat→List Int
 | 0=>l
 | k+1=>if (gs.getD k dG).cols=s then z32 (z1z p gap s gs l k) (gs.getD k dG).col.toNat (gs.getD k dG).cols.toNat gap (p (gs.getD k dG)) else z1z p gap s gs l k
def z0K (p:GC→Int) (gap:Int) (gs:List GC) (l:List Int):Nat→List Int
 | 0=>l
 | s+1=>z1z p gap ((s+1:Nat):Int) gs (z0K p gap gs l s) gs.length
theorem z42 (p:GC→Int) (gap s:Int) (gs:List GC) (l:List Int):∀ k,(z1z p gap s gs l k).length=l.length
 | 0=>rfl
 | k+1=>by rw [z1z];split;rw [zbt];exact z42 p gap s gs l k;exact z42 p gap s gs l k
theorem z3n (p:GC→Int) (gap:Int) (gs:List GC) (l:List Int):∀ s,(z0K p gap gs l s).length=l.length
 | 0=>rfl
 | s+1=>by rw [z0K,z42,z3n p gap gs l s]
def zJ (t:T) (x:GC):ByteArray:=((t.rows.getD x.row.toNat dR).cells.getD x.ins.toNat dC).s
structure Cel (t:T) (C:Nat) (x:GC):Prop where
 ex:∃ rn jn cn mn:Nat,x.row=rn∧x.ins=jn∧x.col=cn∧x.cols=mn∧rn < t.rows.length∧jn < (t.rows.getD rn dR).cells.length∧cn+mn≤C∧1≤mn∧mn≤4
 gap:0≤t.gap∧t.gap≤3
 rows:0≤x.rows∧x.rows≤8
theorem z2Y {t:T} (hD:z0f t):(gOf t).cells.length≤40∧∃ C:Nat,(gOf t).cols=C∧C≤88∧∀ k,k < (gOf t).cells.length→Cel t C ((gOf t).cells.getD k dG):=by
 cases h:zC t with
 | false=>rw [zco h];exact ⟨by simp,0,rfl,by omega,fun k hk=>absurd hk (Nat.not_lt_zero _)⟩
 | true =>
  have hl:=z3t h hD;have h8:=hl.rows;have h40:=z7g hl t.rows.length
  have hg:0≤t.gap∧t.gap≤3:=by
   simp only [zC,inB,Bool.and_eq_true,decide_eq_true_eq] at h;exact h.2.2.1
  have hc:t.cols.length≤8:=by
   simp only [zC,z2d,Bool.and_eq_true,decide_eq_true_eq] at h;omega
  have hcb:=z8U hl hc;rw [z2k h];refine ⟨by show (zX t t.rows.length).length≤40;omega,(z0q (max 1 (t.cols.length:Int)) (zL t)).toNat,by show z0q (max 1 (t.cols.length:Int)) (zL t)=_;omega,by omega,fun k hk=>⟨?_,hg,?_⟩⟩
  ·have hk':k < (zL t).length:=hk;obtain ⟨r,j,hr,hj,e⟩:=(z8B hl hk').ex;have hst:=z3e hl (z2j (d:=dG) hk');have hm:=z7i (m:=max 1 (t.cols.length:Int)) (z2j (d:=dG) hk');have e1:((zL t).getD k dG).row=r:=(by rw [e];rfl);have e2:((zL t).getD k dG).ins=j:=(by rw [e];rfl);unfold z1q at hst;show ∃ rn jn cn mn:Nat,((zL t).getD k dG).row=rn∧((zL t).getD k dG).ins=jn∧((zL t).getD k dG).col=cn∧((zL t).getD k dG).cols=mn∧_;refine ⟨r,j,((zL t).getD k dG).col.toNat,((zL t).getD k dG).cols.toNat,e1,e2,by omega,by omega,hr,hj,by omega,by omega,by omega⟩
  ·have hk':k < (zL t).length:=hk;have hst:=z3e hl (z2j (d:=dG) hk');unfold z1q at hst;show 0≤((zL t).getD k dG).rows∧((zL t).getD k dG).rows≤8;omega
theorem z8D {t:T} {C:Nat} {gs:List GC} {p:GC→Int} {l:List Int} {B s:Int} (hC:∀ k,k < gs.length→Cel t C (gs.getD k dG)) (hl:l.length=C) (hp:∀ x,p x≤30) (hb:UpB l B) (hB:B+30 * gs.length≤50000):∀ k,k≤gs.length→UpB (z1z p t.gap s gs l k) (B+30 * (k:Int))
 | 0,_=>by intro i hi;have:=hb i hi;show 0≤l.getD i 0∧l.getD i 0≤_;omega
 | k+1,hk=>by
  have ih:=z8D (s:=s) hC hl hp hb hB k (by omega);have hx:=hC k (by omega);rw [z1z]
  split
  ·obtain ⟨rn,jn,cn,mn,e1,e2,e3,e4,h1,h2,h3,h4,h5⟩:=hx.ex;rw [e3,e4,Int.toNat_natCast,Int.toNat_natCast];have:=zgt ih (by omega) (by rw [z42,hl];exact h3) ⟨h4,h5⟩ hx.gap (hp (gs.getD k dG)) (c:=cn) (m:=mn);intro i hi;have:=this i hi;omega
  ·intro i hi;have:=ih i hi;omega
theorem z8E {t:T} {C:Nat} {gs:List GC} {p:GC→Int} {l:List Int} (hC:∀ k,k < gs.length→Cel t C (gs.getD k dG)) (h40:gs.length≤40) (hl:l.length=C) (hp:∀ x,p x≤30) (hb:UpB l 0):∀ s,s≤4→UpB (z0K p t.gap gs l s) (1200 * (s:Int))
 | 0,_=>by intro i hi;have:=hb i hi;show 0≤l.getD i 0∧l.getD i 0≤_;omega
 | s+1,hs=>by
  have ih:=z8E hC h40 hl hp hb s (by omega);have:=z8D (s:=((s+1:Nat):Int)) hC (by rw [z3n];exact hl) hp ih (by omega) gs.length (Nat.le_refl _);intro i hi;have:=this i hi;rw [z0K];omega
theorem z4Y {a:Int} (h:-9223372036854775808≤a∧a≤9223372036854775807):IntKind.i64.wrap a=a:=by rw [IntKind.wrap_i64];omega
theorem zdH {cn m C:Nat} (h:cn+(m+1)≤C) (hC:C≤88):(cn:Int)≤(cn:Int)+((m:Int)+1)∧(cn:Int)+((m:Int)+1)≤(C:Int)∧(0:Int)≤(cn:Int)+((m:Int)+1)∧((cn:Int)+((m:Int)+1)).toNat=cn+(m+1)∧cn+(m+1) - cn=m+1∧¬ C=cn∧wrap64 ((cn:Int)+((m:Int)+1))=(cn:Int)+((m:Int)+1)∧IntKind.i64.wrap ((cn:Int)+((m:Int)+1))=(cn:Int)+((m:Int)+1):=by
 have e:-9223372036854775808≤(cn:Int)+((m:Int)+1)∧(cn:Int)+((m:Int)+1)≤9223372036854775807:=(by omega);exact ⟨by omega,by omega,by omega,by omega,by omega,by omega,z33 e,z4Y e⟩
theorem zcN {cn m C:Nat} (h:cn+(m+1)≤C) (hC:cn+(m+1)≤88):(cn:Int)≤(cn:Int)+((m:Int)+1)∧(cn:Int)+((m:Int)+1)≤(C:Int)∧(0:Int)≤(cn:Int)+((m:Int)+1)∧((cn:Int)+((m:Int)+1)).toNat=cn+(m+1)∧cn+(m+1) - cn=m+1∧¬ C=cn∧wrap64 ((cn:Int)+((m:Int)+1))=(cn:Int)+((m:Int)+1)∧IntKind.i64.wrap ((cn:Int)+((m:Int)+1))=(cn:Int)+((m:Int)+1):=by
 have e:-9223372036854775808≤(cn:Int)+((m:Int)+1)∧(cn:Int)+((m:Int)+1)≤9223372036854775807:=(by omega);exact ⟨by omega,by omega,by omega,by omega,by omega,by omega,z33 e,z4Y e⟩
theorem zgu {cn j C:Nat} (h:cn+j < C) (hC:C≤88):(0:Int)≤(cn:Int)+(j:Int)∧(cn:Int)+(j:Int) < (C:Int)∧((cn:Int)+(j:Int)).toNat=cn+j∧wrap64 ((cn:Int)+(j:Int))=(cn:Int)+(j:Int)∧IntKind.i64.wrap ((cn:Int)+(j:Int))=(cn:Int)+(j:Int):=by
 have e:-9223372036854775808≤(cn:Int)+(j:Int)∧(cn:Int)+(j:Int)≤9223372036854775807:=(by omega);exact ⟨by omega,by omega,by omega,z33 e,z4Y e⟩
def zT (n:Nat):List Int:=List.replicate n 0
theorem zaD (n:Nat):UpB (zT n) 0:=by
 intro i hi;simp [zT] at hi;simp [zT,List.getD,hi]
def Ws (w:World) (z gb:Nat) (ac ar:Option Addr) (cc cr:Nat) (t:T) (ag:Option Addr) (cg:Nat) (W:World):Prop :=
 Below w.heap.size w W∧TA W z ac ar cc cr t∧W.heap[w.heap.size]?=some (.cells #[.slice ac t.cols.length cc,.int .i64 t.head,.int .i64 t.foot,.slice ar t.rows.length cr,.int .i64 t.gap] 26)∧z1J W w.heap.size (.slice ag (gOf t).cells.length cg) (gOf t).cells∧W.heap[gb]?=some (.cells #[.int .i64 (gOf t).rows,.int .i64 (gOf t).cols,.slice ag (gOf t).cells.length cg] 38)
theorem Ws.kept {w W W':World} {z gb:Nat} {ac ar ag:Option Addr} {cc cr cg:Nat} {t:T} (h:Ws w z gb ac ar cc cr t ag cg W) (hb:Below W.heap.size W W'):Ws w z gb ac ar cc cr t ag cg W' :=
 ⟨h.1.trans (hb.mono h.1.size),h.2.1.kept hb,(hb.block _ (bL h.2.2.1)).trans h.2.2.1,h.2.2.2.1.kept hb,(hb.block gb (bL h.2.2.2.2)).trans h.2.2.2.2⟩
theorem Ws.at {w W:World} {z gb:Nat} {ac ar ag:Option Addr} {cc cr cg:Nat} {t:T} (h:Ws w z gb ac ar cc cr t ag cg W):W.cell? ⟨w.heap.size,3,none⟩=some (.slice ar t.rows.length cr)∧W.cell? ⟨w.heap.size,4,none⟩=some (.int .i64 t.gap)∧W.cell? ⟨gb,1,none⟩=some (.int .i64 (gOf t).cols)∧W.cell? ⟨gb,2,none⟩=some (.slice ag (gOf t).cells.length cg) :=
 ⟨zf h.2.2.1,zf h.2.2.1,zf h.2.2.2.2,zf h.2.2.2.2⟩
theorem zgv {L:List Int} {B:Int} (hub:UpB L B) (hB:B≤50000) {cn m C:Nat} (hll:L.length=C) (h3:cn+m≤C) (hm:m≤4):(z00 L cn m).all wtB=true∧(0≤(z00 L cn m).sum∧(z00 L cn m).sum≤200000)∧(z00 L cn m).length=m:=by
 have hc:cn+m≤L.length:=(by omega);have hb:∀ x ∈ z00 L cn m,0≤x∧x≤50000:=fun x hx=>by have:=hub.mem (z6n hx);omega
 have hs:=z5k hb;rw [z1L hc] at hs;refine ⟨?_,by omega,z1L hc⟩;rw [List.all_eq_true];intro x hx;have:=hb x hx;simp only [wtB,decide_eq_true_eq];omega
theorem zgw {gap:Int} (hg:0≤gap∧gap≤3) {m:Nat} (hm:m < 4):0≤gap * (m:Int)∧gap * (m:Int)≤9:=⟨Int.mul_nonneg hg.1 (by omega),Int.le_trans (Int.mul_le_mul hg.2 (show (m:Int)≤3 by omega) (by omega) (by omega)) (by omega)⟩
def zcO (x:GC) (l:List ByteArray):z0H:=(x.row.toNat,x.rows.toNat,(l.length:Int))
def rcs (gs:List GC) (ls:List (List ByteArray)):List z0H:=List.zipWith zcO gs ls
theorem zaE {gs:List GC} {ls:List (List ByteArray)} (h:ls.length=gs.length):(rcs gs ls).length=gs.length:=by rw [rcs,List.length_zipWith,h,Nat.min_self]
theorem z8F {gs:List GC} {ls:List (List ByteArray)} (h:ls.length=gs.length) {k:Nat} (hk:k < gs.length):(rcs gs ls)[k]?=some (zcO (gs.getD k dG) (ls.getD k [])):=by
 have hk2:k < ls.length:=(by omega);simp [rcs,List.getElem?_zipWith,List.getD,hk,hk2]
theorem zep {gs:List GC} {ls:List (List ByteArray)} (h:ls.length=gs.length) {p:z0H→Prop} (hp:∀ k,k < gs.length→p (zcO (gs.getD k dG) (ls.getD k []))):∀ c ∈ rcs gs ls,p c:=by
 intro c hc;obtain ⟨k,hk,e⟩:=List.mem_iff_getElem.mp hc;have hk2:k < gs.length:=(by rw [zaE h] at hk;exact hk);have:=z8F h hk2;rw [List.getElem?_eq_getElem hk,e] at this;rw [Option.some.inj this];exact hp k hk2
def z3a (cs:List z0H) (r k:Nat):Int:=(cs.take k).foldl (z1O (z0b cs r)) 0
def hsL (cs:List z0H) (R r k:Nat):List Int:=z0b cs r ++ (z3a cs r k :: zT (R - (r+1)))
theorem z8G (cs:List z0H) {R r:Nat} (k:Nat) (h:r < R):(hsL cs R r k).length=R:=by
 simp [hsL,z0N,zT];omega
theorem zcP (cs:List z0H) {R r:Nat} (h:r < R):z0b cs r ++ zT (R - r)=hsL cs R r 0:=by
 rw [hsL,show R - r=(R - (r+1))+1 by omega,zT,List.replicate_succ];rfl
theorem zaF (cs:List z0H) (R r:Nat):hsL cs R r cs.length=z0b cs (r+1) ++ zT (R - (r+1)):=by
 rw [hsL,z3a,List.take_length,z0b,List.append_assoc];rfl
theorem zeq (cs:List z0H) (R r k:Nat):(hsL cs R r k).getD r 0=z3a cs r k:=by
 rw [hsL,List.getD_eq_getElem?_getD,List.getElem?_append_right (by rw [z0N];exact Nat.le_refl _),z0N,Nat.sub_self];rfl
theorem zj9 (cs:List z0H) (R r k:Nat) (y:Int):(hsL cs R r k).set r y=z0b cs r ++ (y :: zT (R - (r+1))):=by
 rw [hsL,List.set_append_right _ _ (by rw [z0N];exact Nat.le_refl _),z0N,Nat.sub_self];rfl
theorem zcQ {cs:List z0H} {r k:Nat} {c:z0H} (h:cs[k]?=some c):z3a cs r (k+1)=z1O (z0b cs r) (z3a cs r k) c:=by
 rw [z3a,List.take_add_one,h,List.foldl_append];rfl
theorem zcR {cs:List z0H} {R r k:Nat} {c:z0H} (h:cs[k]?=some c) (he:c.1+c.2.1 ≠ r+1):hsL cs R r (k+1)=hsL cs R r k:=by
 rw [hsL,zcQ h,z1O,if_neg (by rw [z0N];exact he),hsL]
theorem zcS {cs:List z0H} {R r k:Nat} {c:z0H} (h:cs[k]?=some c) (he:c.1+c.2.1=r+1):hsL cs R r (k+1)=(hsL cs R r k).set r (max (z3a cs r k) (c.2.2 - ((z0b cs r).sum - zF (z0b cs r) c.1))):=by
 rw [zj9,hsL,zcQ h,z1O,if_pos (by rw [z0N];exact he)]
theorem zja (cs:List z0H) {R r:Nat} (k:Nat) {a:Nat} (ha:a≤r):(z00 (hsL cs R r k) a (r - a)).sum=(z0b cs r).sum - zF (z0b cs r) a:=by
 have h1:z00 (hsL cs R r k) a (r - a)=(z0b cs r).drop a:=by
  rw [z00,hsL,List.drop_append_of_le_length (by rw [z0N];exact ha),List.take_append_of_le_length (by rw [List.length_drop,z0N];exact Nat.le_refl _),List.take_of_length_le (by rw [List.length_drop,z0N];exact Nat.le_refl _)]
 have h2:(z0b cs r).sum=((z0b cs r).take a).sum+((z0b cs r).drop a).sum:=(by rw [← List.sum_append,List.take_append_drop]);rw [h1,zF];omega
theorem z6B {cs:List z0H} {M:Int} (hM:0≤M) (hc:∀ c ∈ cs,c.2.2≤M) (r k:Nat):0≤z3a cs r k∧z3a cs r k≤M:=by
 refine ⟨zaz _ _ 0,zcD _ _ 0 (fun c h2=>?_) hM⟩;have h3:=zaA (z5g cs r) c.1;have h4:=hc c (List.mem_of_mem_take h2);omega
theorem zgx {cs:List z0H} {M:Int} (hM:0≤M) (hc:∀ c ∈ cs,c.2.2≤M) (R r k:Nat):∀ x ∈ hsL cs R r k,0≤x∧x≤M:=by
 intro x hx
 rcases List.mem_append.mp hx with h | h
 ·exact ⟨z5g cs r x h,z7m hM cs hc r x h⟩
 ·rcases List.mem_cons.mp h with rfl | h
  ·exact z6B hM hc r k
  ·have:=List.eq_of_mem_replicate h;omega
theorem zaG:∀ {l:List Int},(∀ x ∈ l,0≤x∧x≤1000)→l.sum≤1000 * (l.length:Int)
 | [],_=>by simp
 | y :: l,h=>by
  have h1:=h y (List.mem_cons_self ..);have h2:=zaG (l:=l) (fun x hx=>h x (List.mem_cons_of_mem _ hx));simp only [List.sum_cons,List.length_cons];omega
theorem zcT {cs:List z0H} (hc:∀ c ∈ cs,c.2.2≤1000) {R r k a:Nat} (hr:r < R) (hR:R≤88) (ha:a≤r):(z00 (hsL cs R r k) a (r - a)).all wtB=true∧(0≤(z00 (hsL cs R r k) a (r - a)).sum∧(z00 (hsL cs R r k) a (r - a)).sum≤88000)∧(z00 (hsL cs R r k) a (r - a)).length=r - a:=by
 have hl:(z00 (hsL cs R r k) a (r - a)).length=r - a:=z1L (by rw [z8G cs k hr];omega);have hb:∀ x ∈ z00 (hsL cs R r k) a (r - a),0≤x∧x≤1000:=fun x hx=>zgx (by omega) hc R r k x (z6n hx);have h1:=zcE (fun x hx=>(hb x hx).1);have h2:=zaG hb;refine ⟨?_,⟨h1,by rw [hl] at h2;omega⟩,hl⟩;rw [List.all_eq_true];intro x hx;have:=hb x hx;unfold wtB;exact decide_eq_true (by omega)
theorem zjL:(Tryz.prog.info? 9).map (fun i=>(i.zero,i.size,i.bytes))=some (some (Value.string ⟨#[]⟩),1,16):=by kernel_rfl
theorem zcV {s:ByteArray} {j k:Nat} (hj:j≤k) (hk:k < s.size):s.extract j k ++ ⟨#[s[k]]⟩=s.extract j (k+1):=by
 apply Go.WideShapes.bytes_inj;rw [Joins.data_append,ByteArray.data_extract,ByteArray.data_extract];have hk':k < s.data.size:=hk;rw [Array.toList_extract,Array.toList_extract];have e:s[k]=s.data.toList[k]'(by simpa using hk'):=rfl;rw [e];simp only [List.extract_eq_take_drop];rw [show k+1 - j=(k - j)+1 by omega,List.take_succ_eq_append_getElem (by rw [List.length_drop];simp;omega),List.getElem_drop];simp [show j+(k - j)=k by omega]
theorem zjd (s:ByteArray) (hok:z0k s=true) (hz:0 < s.size) (w:World) :
  Calls Tryz.prog 140 #[.string s] w fun e w'=>∃ v,e=.returned v∧w'.ownsRow w.heap.size 9 1 v (z0m s 0).length ((z0m s 0).map Value.string)∧Below w.heap.size w w':=by
 obtain ⟨i0,hi,hz0,hz1,hz2⟩:=info_parts zjL;have h30:s.size≤30:=((z2t s).1 hok).1;go_enter Tryz.func140,Tryz.ntmps140;go_wp2_with fail
 go_loopw [3,4,5] (fun o c i W=>∃ (k j:Nat) (out:List ByteArray),k≤s.size∧i=.int .i64 k∧c=.string (s.extract j k)∧j≤k∧j < s.size∧Hid (∀ m,j≤m→m < k→ch s m ≠ 32)∧Hid (z6C s j)∧Hid (z0m s 0=out ++ z0m s j)∧Hid (W.ownsRow w.heap.size 9 1 o out.length (out.map Value.string))∧Hid (Below w.heap.size w W)) (fun _ _ i _=>s.size - (intOf i).toNat)
 case atStart=>exact ⟨0,0,[],Nat.zero_le _,rfl,congrArg Value.string (by rw [ByteArray.extract_same];rfl),Nat.le_refl _,hz,fun m h1 h2=>absurd h2 (Nat.not_lt_zero _),z7t hok,(List.nil_append _).symm,World.ownsRow_made w #[] 0 (Nat.le_refl _) (Nat.zero_le _) rfl,ze (Below.refl _ _) _⟩
 case round =>
  obtain ⟨k,j,out,hk,rfl,rfl,hj,hjk,HN,HS,HO,HR,HB⟩:=hrel;have hol:out.length≤s.size:=(by have:=z5H s 0;rw [HO.out] at this;simp at this;omega);by_cases hlt:k < s.size
  ·have HC:Hid (ch s k=(s[k].toNat:Int)):=z9u hlt;by_cases hc:(s[k].toNat:Int)=32
   ·have hc':((s[k].toNat:Int) == 32)=true:=beq_iff_eq.2 hc;go_wp2_with (at_builtin;refine wpList_append_own _ rfl _ _ 93 rfl w.heap.size 9 i0 (.string ⟨#[]⟩) 1 16 Tryz.underlying93 hi hz0 hz1 hz2 rfl (by decide) _ _ _ rfl (HR.out.alloc _) ⟨wr.heap.size,0,none⟩ 1 1 [.string (s.extract j k)] rfl rfl ?c1 ?c2 ?c3 ?c4 ?c5 ?_)
    case c1 =>
     intro i u hi
     match i,hi with
     | 0,hi=>simp at hi;subst hi;simp [Addr.add]
    case c2=>intro u hu;simp at hu;subst hu;rfl
    case c3=>unfold maxLen;omega
    case c4=>omega
    case c5=>have:=HB.out.size;simp;omega
    intro v' w2 hown' hgrow' _;have HB2:=Hd ((ze HB.out (.cells #[.string (s.extract j k)] 9)).grown hgrow' (by have:=HB.out.size;simp;omega) (fun b hb=>(HR.out.lt b hb).1));have HE:Hid (z0O s j=k):=zaH HN.out hj (Nat.le_of_lt hlt) (fun _=>HC.out.trans hc)
    have hk1:k+1 < s.size:=by
     have hg:=((z2t s).1 hok).2 k hlt;simp [z1o,HC.out.trans hc] at hg;omega
    have HW2:Hid (z0m s 0=(out ++ [s.extract j k]) ++ z0m s (k+1)):=by
     show _=_;rw [HO.out,z3O hjk,HE.out];simp
    have HS2:Hid (z6C s (k+1)):=by
     have:=(z7u hok hjk HS.out).2.2.1;rw [HE.out] at this;exact this
    have HR2:=Hd hown';obtain ⟨g',cap',rfl⟩:=Joins.ownsRow_form hown' (by omega);clear hown' hgrow' HR HB;go_wp2;go_roundw
    case rel=>exact ⟨k+1,k+1,out ++ [s.extract j k],by omega,by go_num,congrArg Value.string (by rw [ByteArray.extract_same];rfl),Nat.le_refl _,hk1,fun m h1 h2=>absurd h2 (by omega),HS2,HW2,by rw [List.length_append,List.map_append];exact HR2,HB2⟩
    case measure=>simp [intOf];omega
   ·have hc':((s[k].toNat:Int) == 32)=false:=beq_eq_false_iff_ne.2 hc
    have hcv:(convert 22 9 (.slice (some ⟨wr.heap.size,0,none⟩) 1 1)).run Tryz.prog (wr.alloc (.cells #[.int .u8 (s[k].toNat:Int)] 5))=.ok (.string ⟨#[s[k]]⟩) (wr.alloc (.cells #[.int .u8 (s[k].toNat:Int)] 5)) :=
     run_convert_bytes_back _ _ _ 5 ⟨wr.heap.size,0,none⟩ 1 [s[k]] Tryz.underlying22 Tryz.underlying5 Tryz.underlying9 (fun i hi=>by
      match i,hi with
      | 0,_=>simp [Addr.add])
    have hz1:¬ 9223372036854775807 < (s.extract j k).size+1:=(by rw [ByteArray.size_extract];omega);have HX:=Hd (zcV hj hlt);have hc2:ch s k ≠ 32:=fun h=>hc (HC.out.symm.trans h)
    have HN2:Hid (∀ m,j≤m→m < k+1→ch s m ≠ 32):=fun m h1 h2=>by
     rcases Nat.lt_or_eq_of_le (Nat.lt_succ_iff.1 h2) with h3 | rfl
     ·exact HN.out m h1 h3
     ·exact hc2
    go_wp2;go_roundw
    case rel=>exact ⟨k+1,j,out,by omega,by go_num,congrArg Value.string HX.out,by omega,hjk,HN2,HS,HO,HR.out.alloc _,ze HB.out _⟩
    case measure=>simp [intOf];omega
  ·obtain rfl:k=s.size:=by omega
   have HE:Hid (z0O s j=s.size):=zaH HN.out hj (Nat.le_refl _) (fun h=>absurd h (Nat.lt_irrefl _))
   have HW2:Hid (z0m s 0=out ++ [s.extract j s.size]):=by
    show _=_;rw [HO.out,z3O hjk,HE.out,z3u (by omega)]
   go_wp2_with (at_builtin;refine wpList_append_own _ rfl _ _ 93 rfl w.heap.size 9 i0 (.string ⟨#[]⟩) 1 16 Tryz.underlying93 hi hz0 hz1 hz2 rfl (by decide) _ _ _ rfl (HR.out.alloc _) ⟨wr.heap.size,0,none⟩ 1 1 [.string (s.extract j s.size)] rfl rfl ?c1 ?c2 ?c3 ?c4 ?c5 ?_)
   case c1 =>
    intro i u hi
    match i,hi with
    | 0,hi=>simp at hi;subst hi;simp [Addr.add]
   case c2=>intro u hu;simp at hu;subst hu;rfl
   case c3=>unfold maxLen;omega
   case c4=>omega
   case c5=>have:=HB.out.size;simp;omega
   intro v' w2 hown' hgrow' _;have HB2:=Hd ((ze HB.out (.cells #[.string (s.extract j s.size)] 9)).grown hgrow' (by have:=HB.out.size;simp;omega) (fun b hb=>(HR.out.lt b hb).1));have HR2:=Hd hown';obtain ⟨g',cap',rfl⟩:=Joins.ownsRow_form hown' (by omega);clear hown' hgrow' HR HB;go_wp2;go_ret;exact ⟨_,rfl,by rw [HW2.out,List.length_append,List.map_append];exact HR2.out,HB2.out⟩
theorem zgD {w:World} {B:Nat} {v:Value} {l:List ByteArray} (h:w.ownsRow B 9 1 v l.length (l.map Value.string)) {i:Nat} (hi:i < l.length) :
  ∃ g cap,v=.slice (some ⟨g,0,none⟩) l.length cap∧l.length≤cap∧cap≤maxLen∧w.cell? ⟨g,i,none⟩=some (.string l[i]):=by
 rcases h.2 with ⟨_,h0⟩ | ⟨g,cap,cur,hv,_,hg,h1,h2,h3,h4⟩
 ·omega
 ·refine ⟨g,cap,hv,h1,h2,?_⟩;rw [zf hg];have:cur.toList[i]?=(l.map Value.string)[i]?:=(by rw [← h4,List.getElem?_take_of_lt (by omega)]);rw [← Array.getElem?_toList,this];simp [hi]
theorem z8e (s:ByteArray) (hs:s.size≤maxLen) (w:World) :
  Calls Tryz.prog 115 #[.string s] w fun e w'=>∃ v,e=.returned v∧w'.ownsRow w.heap.size 9 1 v (zQ s).length ((zQ s).map (fun x=>Value.string x.1))∧Below w.heap.size w w':=by
 by_cases hz:s.size=0
 ·have hw0:zQ s=[]:=by
   rw [zQ]
   split
   ·rw [z3u (by omega)];rfl
   ·rfl
  have hnil:=z9v hz;have HW:=Hd hw0;clear hw0;go_enter Tryz.func115,Tryz.ntmps115;go_wp2
  all_goals
   go_ret;exact ⟨_,rfl,by rw [HW.out];exact World.ownsRow_made w #[] 0 (Nat.le_refl _) (Nat.zero_le _) rfl,ze (Below.refl _ _) _⟩
 ·have he:¬ s.toList=[]:=fun h=>hz (zca h);have he':s.toList.isEmpty=false:=(by simpa using he)
  cases hok:z0k s with
  | false =>
   have hw0:zQ s=[]:=(by rw [zQ,if_neg (by rw [hok];simp)]);go_enter Tryz.func115,Tryz.ntmps115;have HW:=Hd hw0;clear hw0;go_wp2_with (go_at_call 106;refine (z2A s w hs).mono ?_;rintro e w' ⟨rfl,rfl⟩;rw [hok])
   go_ret;exact ⟨_,rfl,by rw [HW.out];exact World.ownsRow_made w' #[] 0 (Nat.le_refl _) (Nat.zero_le _) rfl,ze (Below.refl _ _) _⟩
  | true =>
   have hp:0 < s.size:=(by omega);go_enter Tryz.func115,Tryz.ntmps115
   go_wp2_with (first
    | (go_at_call 106;refine (z2A s _ hs).mono ?_;rintro e w' ⟨rfl,rfl⟩;rw [hok])
    | (go_at_call 140;refine (zjd s hok hp _).mono ?_;rintro e w' ⟨v,rfl,hv,hb⟩))
   go_ret;exact ⟨_,rfl,by rw [zbw hok,zgz hok];exact hv,hb⟩
theorem zet {w:World} {B:Nat} {v:Value} {l:List W30} (h:w.ownsRow B 9 1 v l.length (l.map (fun x=>Value.string x.1))) {i:Nat} (hi:i < l.length) :
  ∃ g cap,v=.slice (some ⟨g,0,none⟩) l.length cap∧l.length≤cap∧cap≤maxLen∧w.cell? ⟨g,i,none⟩=some (.string l[i].1):=by
 have e:l.map (fun x=>Value.string x.1)=(l.map (fun x=>x.1)).map Value.string:=(by rw [List.map_map];rfl);have el:l.length=(l.map (fun x:W30=>x.1)).length:=(List.length_map ..).symm;rw [e,el] at h;obtain ⟨g,cap,h1,h2,h3,h4⟩:=zgD h (i:=i) (by rw [List.length_map];exact hi);refine ⟨g,cap,by rw [el];exact h1,by rw [el];exact h2,h3,?_⟩;rw [h4];simp
theorem z9W {w:World} {B:Nat} {v:Value} {l:List W30} (h:w.ownsRow B 9 1 v l.length (l.map (fun x=>Value.string x.1))):∃ a cap,v=.slice a l.length cap:=by
 rcases h.2 with ⟨hv,h0⟩ | ⟨g,cap,cur,hv,_⟩
 ·exact ⟨none,0,by rw [h0];exact hv⟩
 ·exact ⟨_,_,hv⟩
theorem zjM:(Tryz.prog.info? 9).map (fun i=>(i.zero,i.size,i.bytes))=some (some (Value.string ⟨#[]⟩),1,16):=by kernel_rfl
def z5l (st:List ByteArray × ByteArray):Prop:=st.2.size=0→st.1=[]
theorem z8f (q:Int) (st:List ByteArray × ByteArray) (x:W30):z5l (z02 q st x.1):=by
 have hx:=x.2.1;intro h0;unfold z02 at h0 ⊢;by_cases h1:0 < st.2.size
 ·by_cases h2:q < (st.2.size:Int)+1+x.1.size
  ·rw [if_pos h1,if_pos h2] at h0;dsimp only at h0;omega
  ·rw [if_pos h1,if_neg h2] at h0;dsimp only at h0;rw [ByteArray.size_append] at h0;omega
 ·rw [if_neg h1] at h0;dsimp only at h0;omega
theorem zcW (q:Int) (ws:List W30):z5l (z18 q ws):=by
 suffices h:∀ (l:List W30) (st:List ByteArray × ByteArray),z5l st→z5l (l.foldl (fun st x=>z02 q st x.1) st) from h ws _ (fun _=>rfl)
 intro l
 induction l with
 | nil=>intro st h;exact h
 | cons x r ih=>intro st _;exact ih _ (z8f q st x)
def z4Z (l:List ByteArray):ByteArray:=l.getD (l.length - 1) eS
theorem zje {q:Int} {st:List ByteArray × ByteArray} (hok:z5l st) (h:(zS st).length=0) (x:W30):zS (z02 q st x.1)=zS st ++ [x.1]:=by
 obtain ⟨lines,line⟩:=st;have h0:¬ 0 < line.size:=fun h0=>by simp [zS,h0] at h
 have hl:lines=[]:=hok (show line.size=0 by omega);subst hl;have hx:=x.2.1;simp [z02,zS,h0,hx]
theorem z9g {st:List ByteArray × ByteArray} (h:(zS st).length ≠ 0) (hok:z5l st):0 < st.2.size∧zS st=st.1 ++ [st.2]∧z4Z (zS st)=st.2:=by
 obtain ⟨lines,line⟩:=st
 have h0:0 < line.size:=by
  rcases Nat.eq_zero_or_pos line.size with h0 | h0
  ·have hl:lines=[]:=hok h0;subst hl;simp [zS,h0] at h
  ·exact h0
 have e:zS (lines,line)=lines ++ [line]:=(by simp [zS,h0]);refine ⟨h0,e,?_⟩;rw [e];simp [z4Z,List.getD]
theorem zgE {q:Int} {st:List ByteArray × ByteArray} (hok:z5l st) (h:(zS st).length ≠ 0) (x:W30) (hq:q < ((z4Z (zS st)).size:Int)+1+x.1.size):zS (z02 q st x.1)=zS st ++ [x.1]:=by
 obtain ⟨h1,h2,h3⟩:=z9g h hok;rw [h3] at hq;have hx:=x.2.1;have e:z02 q st x.1=(st.1 ++ [st.2],x.1):=(by unfold z02;rw [if_pos h1,if_pos hq]);rw [e,h2];simp [zS,hx]
theorem zi7 {q:Int} {st:List ByteArray × ByteArray} (hok:z5l st) (h:(zS st).length ≠ 0) (x:W30) (hq:¬ q < ((z4Z (zS st)).size:Int)+1+x.1.size):zS (z02 q st x.1)=(zS st).set ((zS st).length - 1) (z4Z (zS st) ++ ⟨#[32]⟩ ++ x.1):=by
 obtain ⟨h1,h2,h3⟩:=z9g h hok;rw [h3] at hq ⊢;have hx:=x.2.1;have e:z02 q st x.1=(st.1,st.2 ++ ⟨#[32]⟩ ++ x.1):=(by unfold z02;rw [if_pos h1,if_neg hq]);have hp:0 < (st.2 ++ ⟨#[32]⟩ ++ x.1).size:=(by rw [ByteArray.size_append];omega);rw [e,h2];simp only [zS,hp,if_true,List.length_append,List.length_cons,List.length_nil,Nat.add_sub_cancel,Nat.zero_add];rw [List.set_append_right _ _ (Nat.le_refl _)];simp
theorem zbz (q:Int) (ws:List W30):(zS (z18 q ws)).length≤ws.length+1∧(z4Z (zS (z18 q ws))).size≤31 * ws.length:=by
 obtain ⟨h1,h2⟩:=z7v q ws;constructor
 ·unfold zS
  split
  ·simp;omega
  ·omega
 ·rcases Nat.eq_zero_or_pos (zS (z18 q ws)).length with h | h
  ·have:zS (z18 q ws)=[]:=List.eq_nil_of_length_eq_zero h;rw [this];simp [z4Z,eS]
  ·rw [(z9g (by omega) (zcW q ws)).2.2];exact h2
theorem zgF {q:Int} {l:List W30} {k:Nat} (h:k < l.length):z18 q (l.take (k+1))=z02 q (z18 q (l.take k)) l[k].1:=by
 rw [List.take_succ_eq_append_getElem h,zbx]
theorem zcX {w:World} {B:Nat} {v:Value} {l:List ByteArray} (h:z1A w B v l):w.ownsRow B 9 1 v l.length (l.map Value.string):=by
 refine ⟨by simp,?_⟩
 rcases h with ⟨hv,rfl⟩ | ⟨g,cap,cur,hv,hb,hg,h1,h2,h3,h4⟩
 ·exact Or.inl ⟨hv,rfl⟩
 ·refine Or.inr ⟨g,cap,cur,hv,hb,hg,h1,h2,by omega,?_⟩;apply List.ext_getElem?;intro i;rw [Nat.mul_one];by_cases hi:i < l.length
  ·rw [List.getElem?_take_of_lt hi,Array.getElem?_toList,h4 i hi];simp [List.getD,hi]
  ·rw [List.getElem?_eq_none (by simp;omega),List.getElem?_eq_none (by simp;omega)]
def zkk:List ByteArray→ByteArray
 | []=>⟨#[]⟩
 | [x]=>x
 | x :: y :: r=>x ++ ⟨#[32]⟩ ++ zkk (y :: r)
def zaI (a b:List ByteArray × ByteArray):Prop:=(zS a).length < (zS b).length∨(zS a).length=(zS b).length∧a.2.size≤b.2.size
theorem zaJ {q:Int} {st:List ByteArray × ByteArray} (h:¬ 0 < st.2.size) (x:W30):(zS (z02 q st x.1)).length=(zS st).length+1∧(z02 q st x.1).2.size=x.1.size:=by
 have hx:=x.2.1;have e:z02 q st x.1=(st.1,x.1):=(by unfold z02;rw [if_neg h]);rw [e];simp [zS,h,hx]
theorem z5F {q:Int} {st:List ByteArray × ByteArray} (h:0 < st.2.size) (x:W30) (hq:q < (st.2.size:Int)+1+x.1.size):(zS (z02 q st x.1)).length=(zS st).length+1∧(z02 q st x.1).2.size=x.1.size:=by
 have hx:=x.2.1;have e:z02 q st x.1=(st.1 ++ [st.2],x.1):=(by unfold z02;rw [if_pos h,if_pos hq]);rw [e];simp [zS,h,hx]
theorem z6o {q:Int} {st:List ByteArray × ByteArray} (h:0 < st.2.size) (x:W30) (hq:¬ q < (st.2.size:Int)+1+x.1.size):(zS (z02 q st x.1)).length=(zS st).length∧(z02 q st x.1).2.size=st.2.size+1+x.1.size:=by
 have e:z02 q st x.1=(st.1,st.2 ++ ⟨#[32]⟩ ++ x.1):=(by unfold z02;rw [if_pos h,if_neg hq]);have hz:(st.2 ++ ⟨#[32]⟩ ++ x.1).size=st.2.size+1+x.1.size:=(by rw [ByteArray.size_append,ByteArray.size_append];rfl);rw [e];refine ⟨?_,hz⟩;have hp:0 < (st.2 ++ ⟨#[32]⟩ ++ x.1).size:=(by omega);simp only [zS,hp,h,if_true,List.length_append,List.length_cons,List.length_nil]
theorem zcZ {st:List ByteArray × ByteArray} (hok:z5l st):(¬ 0 < st.2.size→(zS st).length=0)∧(0 < st.2.size→0 < (zS st).length):=by
 refine ⟨fun h=>?_,fun h=>?_⟩
 ·have:st.1=[]:=hok (by omega);simp [zS,h,this]
 ·simp [zS,h]
theorem zf3 {p q:Int} (hpq:p≤q) {a b:List ByteArray × ByteArray} (ha:z5l a) (hb:z5l b) (h:zaI a b) (x:W30):zaI (z02 q a x.1) (z02 p b x.1):=by
 have hx:=x.2.1;obtain ⟨za,za'⟩:=zcZ ha;obtain ⟨zb,zb'⟩:=zcZ hb;unfold zaI at h ⊢;by_cases h1:0 < a.2.size
 ·have c1:=za' h1
  have h2:0 < b.2.size:=by
   by_cases h2:0 < b.2.size
   ·exact h2
   ·have:=zb h2;omega
  by_cases qa:q < (a.2.size:Int)+1+x.1.size
  ·obtain ⟨e1,e2⟩:=z5F h1 x qa;by_cases qb:p < (b.2.size:Int)+1+x.1.size
   ·obtain ⟨e3,e4⟩:=z5F h2 x qb;omega
   ·obtain ⟨e3,e4⟩:=z6o h2 x qb;omega
  ·obtain ⟨e1,e2⟩:=z6o h1 x qa;by_cases qb:p < (b.2.size:Int)+1+x.1.size
   ·obtain ⟨e3,e4⟩:=z5F h2 x qb;omega
   ·obtain ⟨e3,e4⟩:=z6o h2 x qb;omega
 ·have c1:=za h1;obtain ⟨e1,e2⟩:=zaJ (q:=q) h1 x;by_cases h2:0 < b.2.size
  ·have:=zb' h2;by_cases qb:p < (b.2.size:Int)+1+x.1.size
   ·obtain ⟨e3,e4⟩:=z5F h2 x qb;omega
   ·obtain ⟨e3,e4⟩:=z6o h2 x qb;omega
  ·obtain ⟨e3,e4⟩:=zaJ (q:=p) h2 x;have:=zb h2;omega
theorem zkl {p q:Int} (hpq:p≤q) (ws:List W30):(zS (z18 q ws)).length≤(zS (z18 p ws)).length:=by
 suffices h:∀ (l:List W30) (a b:List ByteArray × ByteArray),z5l a→z5l b→zaI a b→zaI (l.foldl (fun st x=>z02 q st x.1) a) (l.foldl (fun st x=>z02 p st x.1) b) by
  have:=h ws ([],⟨#[]⟩) ([],⟨#[]⟩) (fun _=>rfl) (fun _=>rfl) (Or.inr ⟨rfl,Nat.le_refl _⟩);unfold zaI at this;have e1:z18 q ws=ws.foldl (fun st x=>z02 q st x.1) ([],⟨#[]⟩):=rfl;have e2:z18 p ws=ws.foldl (fun st x=>z02 p st x.1) ([],⟨#[]⟩):=rfl;rw [e1,e2];omega
 intro l
 induction l with
 | nil=>intro a b _ _ h;exact h
 | cons x r ih=>intro a b ha hb h;exact ih _ _ (z8f q a x) (z8f p b x) (zf3 hpq ha hb h x)
theorem zjf {q:Int} {n:Nat} (hq:q≤(n:Int)) (ws:List W30) (hw:∀ x ∈ ws,x.1.size≤n):∀ y ∈ zS (z18 q ws),y.size≤n:=by
 suffices h:∀ (l:List W30) (st:List ByteArray × ByteArray),(∀ x ∈ l,x.1.size≤n)→(∀ y ∈ st.1,y.size≤n)→st.2.size≤n→(∀ y ∈ (l.foldl (fun st x=>z02 q st x.1) st).1,y.size≤n)∧(l.foldl (fun st x=>z02 q st x.1) st).2.size≤n by
  obtain ⟨h1,h2⟩:=h ws ([],⟨#[]⟩) hw (fun y hy=>by cases hy) (Nat.zero_le _);intro y hy;unfold zS at hy
  split at hy
  ·rcases List.mem_append.1 hy with hy | hy
   ·exact h1 y hy
   ·simp at hy;subst hy;exact h2
  ·exact h1 y hy
 intro l
 induction l with
 | nil=>intro st _ h1 h2;exact ⟨h1,h2⟩
 | cons x r ih =>
  intro st hx h1 h2;have hx1:=hx x (List.mem_cons_self ..);refine ih _ (fun y hy=>hx y (List.mem_cons_of_mem _ hy)) ?_ ?_
  ·show ∀ y ∈ (z02 q st x.1).1,y.size≤n;unfold z02;by_cases c1:0 < st.2.size
   ·by_cases c2:q < (st.2.size:Int)+1+x.1.size
    ·rw [if_pos c1,if_pos c2];intro y hy
     rcases List.mem_append.1 hy with hy | hy
     ·exact h1 y hy
     ·simp at hy;subst hy;exact h2
    ·rw [if_pos c1,if_neg c2];exact h1
   ·rw [if_neg c1];exact h1
  ·show (z02 q st x.1).2.size≤n;by_cases c1:0 < st.2.size
   ·by_cases c2:q < (st.2.size:Int)+1+x.1.size
    ·rw [(z5F c1 x c2).2];exact hx1
    ·rw [(z6o c1 x c2).2];omega
   ·rw [(zaJ (q:=q) c1 x).2];exact hx1
def LeL (a b:List Int):Prop:=a.length=b.length∧∀ i,i < a.length→a.getD i 0≤b.getD i 0
theorem LeL.refl (a:List Int):LeL a a:=⟨rfl,fun _ _=>Int.le_refl _⟩
theorem LeL.trans {a b c:List Int} (h:LeL a b) (k:LeL b c):LeL a c:=⟨h.1.trans k.1,fun i hi=>Int.le_trans (h.2 i hi) (k.2 i (by rw [← h.1];exact hi))⟩
theorem LeL.sub {a b:List Int} (h:LeL a b) {c m:Nat} (hc:c+m≤a.length):LeL (z00 a c m) (z00 b c m):=by
 have hb:c+m≤b.length:=(by rw [← h.1];exact hc);refine ⟨by rw [z1L hc,z1L hb],fun i hi=>?_⟩;rw [z1L hc] at hi;rw [z7s hc hi,z7s hb hi];exact h.2 _ (by omega)
theorem zeu:∀ (a b:List Int),a.length=b.length→(List.zipWith (·+·) a b).sum=a.sum+b.sum
 | [],[],_=>by simp
 | [],_ :: _,h=>absurd h (by simp)
 | _ :: _,[],h=>absurd h (by simp)
 | x :: a,y :: b,h=>by
  rw [List.zipWith_cons_cons,List.sum_cons,List.sum_cons,List.sum_cons,zeu a b (by simpa using h)];omega
def zkV (l:List Int) (gap:Int) (x:GC):Int:=(z00 l x.col.toNat x.cols.toNat).sum+gap * (x.cols - 1)
def z1v (ps:List (Int × Int)) (l:List Int):Nat→List Int
 | 0=>l
 | k+1=>if (sd ps k).1=1 then (z1v ps l k).set k (max ((z1v ps l k).getD k 0) (sd ps k).2) else z1v ps l k
theorem z1m (ps:List (Int × Int)) (l:List Int):∀ k,(z1v ps l k).length=l.length
 | 0=>rfl
 | k+1=>by rw [z1v];split;rw [List.length_set];exact z1m ps l k;exact z1m ps l k
theorem z2C (ps:List (Int × Int)) (l:List Int) {i:Nat}:∀ k,k≤i→(z1v ps l k).getD i 0=l.getD i 0
 | 0,_=>rfl
 | k+1,h=>by
  rw [z1v]
  split
  ·rw [← z2C ps l (i:=i) k (by omega)];simp only [List.getD,List.getElem?_set_ne (show k ≠ i by omega)]
  ·exact z2C ps l k (by omega)
def zf5 (ps:List (Int × Int)) (k:Nat) (x:Int):Int:=if (sd ps k).1=1 then max x (sd ps k).2 else x
theorem zd0 (ps:List (Int × Int)) (l:List Int) {i:Nat} (hi:i < l.length):∀ k,i < k→(z1v ps l k).getD i 0=zf5 ps i (l.getD i 0)
 | k+1,h=>by
  rw [z1v];by_cases e:i=k
  ·subst e;rw [z2C ps l i (Nat.le_refl _)];have hl:i < (z1v ps l i).length:=(by rw [z1m];exact hi);unfold zf5
   split
   ·simp [List.getD,hl]
   ·exact z2C ps l i (Nat.le_refl _)
  ·rw [← zd0 ps l hi k (by omega)]
   split
   ·simp only [List.getD,List.getElem?_set_ne (show k ≠ i by omega)]
   ·rfl
def z3b (t:T) (x:GC):Int:=(z0w (zQ (zJ t x)):Nat)
def zy (t:T):Nat:=(gOf t).cols.toNat
def z1U (t:T) (p:GC→Int):List Int:=z0K p t.gap (gOf t).cells (zT (zy t)) 4
def zu (t:T):List Int:=z1v t.cols (z1U t (z3b t)) (zy t)
theorem z2D (t:T) (p:GC→Int):(z1U t p).length=zy t:=by unfold z1U;rw [z3n];simp [zT]
theorem z1h (t:T):(zu t).length=zy t:=by unfold zu;rw [z1m,z2D]
theorem z44 {t:T} {C:Nat} (h:(gOf t).cols=C):zy t=C:=by unfold zy;rw [h];exact Int.toNat_natCast C
theorem z5m {t:T} (hD:z0f t) {p:GC→Int} (hp:∀ x,p x≤30):UpB (z1U t p) 4800:=by
 obtain ⟨h40,C,hgc,hC,hcel⟩:=z2Y hD;unfold z1U;rw [z44 hgc];exact z8E hcel h40 (by simp [zT]) hp (zaD _) 4 (by omega)
theorem z9i {t:T} {k:Nat} (hk:k < zy t):(sd t.cols k).1=1→0≤(sd t.cols k).2∧(sd t.cols k).2≤60:=by
 intro h1
 cases h:zC t with
 | false=>unfold zy at hk;rw [zco h] at hk;exact absurd hk (Nat.not_lt_zero _)
 | true =>
  simp only [zC,z2d,Bool.and_eq_true,List.all_eq_true] at h;by_cases hl:k < t.cols.length
  ·rw [z8h hl] at h1 ⊢;have:=h.2.2.2.1.2 (t.cols.getD k (0,0)) (by rw [show t.cols.getD k (0,0)=t.cols[k] by simp [List.getD,hl]];exact List.getElem_mem hl);simp only [z2p,decide_eq_true_eq] at this;omega
  ·rw [z9X (z2U (by omega))] at h1;simp at h1
theorem zf6 {t:T} {k:Nat} (hk:k < zy t):(zu t).getD k 0=zf5 t.cols k ((z1U t (z3b t)).getD k 0):=by
 unfold zu;exact zd0 _ _ (by rw [z2D];exact hk) _ hk
theorem z8i (t:T) (x:GC):0≤z3b t x∧z3b t x≤30:=by
 unfold z3b;have:=z50 (zQ (zJ t x));omega
theorem z3P {t:T} (hD:z0f t):UpB (zu t) 5000:=by
 intro i hi;rw [z1h] at hi;rw [zf6 hi];have h1:=z5m hD (fun x=>(z8i t x).2) i (by rw [z2D];exact hi);have h2:=z9i hi;unfold zf5
 split
 ·have:=h2 (by assumption);omega
 ·omega
def z2Q (a b:List Int):Nat→List Int
 | 0=>a
 | k+1=>(z2Q a b k).set k (max (a.getD k 0) (b.getD k 0))
theorem z2Z (a b:List Int):∀ k,(z2Q a b k).length=a.length
 | 0=>rfl
 | k+1=>by rw [z2Q,List.length_set];exact z2Z a b k
theorem z8k (a b:List Int) {i:Nat}:∀ k,k≤i→(z2Q a b k).getD i 0=a.getD i 0
 | 0,_=>rfl
 | k+1,h=>by
  rw [z2Q,← z8k a b (i:=i) k (by omega)];simp only [List.getD,List.getElem?_set_ne (show k ≠ i by omega)]
theorem zd1 (a b:List Int) {i:Nat} (hi:i < a.length):∀ k,i < k→(z2Q a b k).getD i 0=max (a.getD i 0) (b.getD i 0)
 | k+1,h=>by
  rw [z2Q];by_cases e:i=k
  ·subst e;have hl:i < (z2Q a b i).length:=(by rw [z2Z];exact hi);simp only [List.getD,List.getElem?_set_self hl,Option.getD_some]
  ·rw [← zd1 a b hi k (by omega)];simp only [List.getD,List.getElem?_set_ne (show k ≠ i by omega)]
def z45 (t:T) (x:GC):Int:=(z2s (zJ t x):Nat)
theorem z9j (t:T) (x:GC):0≤z45 t x∧z45 t x≤30:=by
 unfold z45;have:=z8j (zJ t x);omega
def z20 (t:T):List Int:=z2Q (z1U t (z45 t)) (zu t) (zy t)
theorem z5G (t:T):(z20 t).length=zy t:=by unfold z20;rw [z2Z,z2D]
theorem zbA {t:T} {k:Nat} (hk:k < zy t):(z20 t).getD k 0=max ((z1U t (z45 t)).getD k 0) ((zu t).getD k 0):=by
 unfold z20;exact zd1 _ _ (by rw [z2D];exact hk) _ hk
theorem z7w {t:T} (hD:z0f t):UpB (z20 t) 5000:=by
 intro i hi;rw [z5G] at hi;rw [zbA hi];have h1:=z5m hD (fun x=>(z9j t x).2) i (by rw [z2D];exact hi);have h2:=z3P hD i (by rw [z1h];exact hi);omega
def zm (t:T) (q:Int) (k:Nat):Bool:=decide ((sd t.cols k).1=q)
def z0u (t:T) (width:Int):Int:=width - ((zu t).sum+t.gap * ((zy t:Int) - 1))
def z0Q (t:T) (width:Int) (l:List Int):List Int:=(List.range l.length).map (fun k=>if zm t 2 k=true then max 0 (width * (sd t.cols k).2 / 100 - l.getD k 0) else 0)
def z0R (t:T) (l:List Int):List Int:=(List.range l.length).map (fun k=>if zm t 0 k=true then max 0 ((z20 t).getD k 0 - l.getD k 0) else 0)
def z0S (t:T) (width:Int):List Int:=z1j (zu t) (z0x (z0u t width) (z0Q t width (zu t)))
def z1G (t:T) (width:Int):Int:=z2e (z0u t width) (z0Q t width (zu t))
def z1P (t:T) (width:Int):List Int:=z1j (z0S t width) (z0x (z1G t width) (z0R t (z0S t width)))
def z1H (t:T) (width:Int):Int:=z2e (z1G t width) (z0R t (z0S t width))
def z0d (t:T) (width:Int):List Int :=
 if z0u t width≤0 then zu t
 else if 0 < (zk (zm t 0) (zy t)).length then z1j (z1P t width) (zt (z1H t width) (z0z (zm t 0) (zy t)))
 else if 0 < (zk (zm t 2) (zy t)).length then z1j (z1P t width) (zt (z1H t width) (z0z (zm t 2) (zy t)))
 else z1P t width
theorem z5p {a b:List Int} (h:b.length=a.length):(z1j a b).length=a.length:=by unfold z1j;rw [List.length_zipWith,h];omega
theorem z9k {a b:List Int} (h:b.length=a.length):(z1j a b).sum=a.sum+b.sum:=zeu a b h.symm
theorem z4x {a b:List Int} (h:b.length=a.length) {i:Nat} (hi:i < a.length):(z1j a b).getD i 0=a.getD i 0+b.getD i 0:=by
 have hb:i < b.length:=(by omega);have hz:i < (List.zipWith (·+·) a b).length:=(by rw [List.length_zipWith];omega);unfold z1j;simp only [List.getD,List.getElem?_eq_getElem hi,List.getElem?_eq_getElem hb,List.getElem?_eq_getElem hz,Option.getD_some,List.getElem_zipWith]
theorem z31 (t:T) (width:Int) (l:List Int):(z0Q t width l).length=l.length:=by simp [z0Q]
theorem z2E (t:T) (l:List Int):(z0R t l).length=l.length:=by simp [z0R]
theorem z4O {t:T} {width:Int} {l:List Int} {k:Nat} (h:k < l.length):(z0Q t width l).getD k 0=if zm t 2 k=true then max 0 (width * (sd t.cols k).2 / 100 - l.getD k 0) else 0:=by simp [z0Q,List.getD,h]
theorem z4P {t:T} {l:List Int} {k:Nat} (h:k < l.length):(z0R t l).getD k 0=if zm t 0 k=true then max 0 ((z20 t).getD k 0 - l.getD k 0) else 0:=by simp [z0R,List.getD,h]
theorem zf7 {t:Int} {l:List Int} (ht:0≤t∧t≤100000) (hl:l.length≤100) (h:∀ i,i < l.length→0≤l.getD i 0∧l.getD i 0≤100000):zB t l=true:=by
 simp only [zB,Bool.and_eq_true,decide_eq_true_eq,List.all_eq_true];refine ⟨⟨by simp only [wtB,decide_eq_true_eq];exact ht,hl⟩,fun x hx=>?_⟩;obtain ⟨i,hi,rfl⟩:=List.mem_iff_getElem.1 hx;have:=h i hi;rw [show l.getD i 0=l[i] by simp [List.getD,hi]] at this;simp only [wtB,decide_eq_true_eq];exact this
theorem z21 {t:Int} {l:List Int} (hok:zB t l=true):(z0x t l).length=l.length∧(z0x t l).sum+z2e t l=t∧0≤z2e t l∧z2e t l≤t∧∀ i,i < l.length→0≤(z0x t l).getD i 0∧(z0x t l).getD i 0≤l.getD i 0:=by
 obtain ⟨ht,hlen,hw⟩:=z04 hok;have hg:∀ i,i < l.length→0≤l.getD i 0:=fun i hi=>(z2V hw hi).1;by_cases hs:l.sum≤t
 ·rw [(z3R hok hs).1,(z3R hok hs).2];have h0:0≤l.sum:=(z2z hw).1;exact ⟨rfl,by omega,by omega,by omega,fun i hi=>⟨hg i hi,Int.le_refl _⟩⟩
 ·rw [(z30 hok hs).1,(z30 hok hs).2]
  have hpos:0 < l.length:=by
   cases l with
   | nil=>simp at hs;omega
   | cons _ _=>simp
  exact ⟨z1s hok,by rw [z3f hok hpos];omega,Int.le_refl _,ht.1,fun i hi=>zf2 hok (by omega) hi⟩
theorem z74 {t:T} {k:Nat} (hk:k < zy t):((sd t.cols k).1=0)∨((sd t.cols k).1=1∧0≤(sd t.cols k).2∧(sd t.cols k).2≤60)∨((sd t.cols k).1=2∧1≤(sd t.cols k).2∧(sd t.cols k).2≤100):=by
 cases h:zC t with
 | false=>unfold zy at hk;rw [zco h] at hk;exact absurd hk (Nat.not_lt_zero _)
 | true =>
  simp only [zC,z2d,Bool.and_eq_true,List.all_eq_true] at h;by_cases hl:k < t.cols.length
  ·rw [z8h hl];have:=h.2.2.2.1.2 (t.cols.getD k (0,0)) (by rw [show t.cols.getD k (0,0)=t.cols[k] by simp [List.getD,hl]];exact List.getElem_mem hl);simp only [z2p,decide_eq_true_eq] at this;omega
  ·rw [z9X (z2U (by omega))];exact .inl rfl
theorem z9Z {width n:Int} (hw:0≤width∧width≤300) (hn:1≤n∧n≤100):0≤width * n / 100∧width * n / 100≤300:=by
 have h1:0≤width * n:=Int.mul_nonneg hw.1 (by omega);have h2:width * n≤300 * 100:=Int.mul_le_mul hw.2 hn.2 (by omega) (by omega);omega
theorem z3S {t:T} (hD:z0f t) (hok:zC t=true) {width:Int} (hw:0≤width∧width≤300) (hr:0 < z0u t width) :
  zB (z0u t width) (z0Q t width (zu t))=true∧zB (z1G t width) (z0R t (z0S t width))=true∧(0≤z1H t width∧z1H t width≤300)∧(z0S t width).length=zy t∧(z1P t width).length=zy t∧(z1P t width).sum+z1H t width=(zu t).sum+z0u t width ∧
  (∀ k,k < zy t→(zu t).getD k 0≤(z0S t width).getD k 0∧(z0S t width).getD k 0≤(z1P t width).getD k 0∧(zm t 2 k=false→(z0S t width).getD k 0=(zu t).getD k 0)∧(zm t 0 k=false→(z1P t width).getD k 0=(z0S t width).getD k 0)):=by
 obtain ⟨_,C,hgc,hC,hcel⟩:=z2Y hD;have hCN:=z44 hgc;have hlen:=z1h t;have hup:=z3P hD;have hsb:=z5k (l:=zu t) (B:=5000) (fun x hx=>hup.mem hx)
 have hC1:1≤zy t:=by
  have h1:(gOf t).cols=z0q (max 1 (t.cols.length:Int)) (zL t):=(by rw [z2k hok]);have h2:=z3H (zL t) (max 1 (t.cols.length:Int));unfold zy;omega
 have hg:0≤t.gap∧t.gap≤3:=by
  simp only [zC,inB,Bool.and_eq_true,decide_eq_true_eq] at hok;exact hok.2.2.1
 have hgap:0≤t.gap * ((zy t:Int) - 1):=Int.mul_nonneg hg.1 (by omega);have hr300:z0u t width≤300:=(by unfold z0u;omega)
 have ok1:zB (z0u t width) (z0Q t width (zu t))=true:=zf7 (by omega) (by rw [z31,hlen];omega) (fun i hi=>by
  rw [z31] at hi;rw [z4O hi];have hu:=hup i hi
  split
  ·rename_i hp
   have hk:=z74 (t:=t) (k:=i) (by rw [← hlen];exact hi);simp only [zm,decide_eq_true_eq] at hp;have:=z9Z hw (n:=(sd t.cols i).2) (by omega);omega
  ·omega)
 obtain ⟨l1,s1,n1,m1,e1⟩:=z21 ok1;rw [z31] at l1 e1;have ho1:(z0S t width).length=zy t:=(by unfold z0S;rw [z5p l1,hlen]);have g1:∀ k,k < zy t→(z0S t width).getD k 0=(zu t).getD k 0+(z0x (z0u t width) (z0Q t width (zu t))).getD k 0:=fun k hk=>by unfold z0S;exact z4x l1 (by rw [hlen];exact hk)
 have hl1:0≤z1G t width∧z1G t width≤300:=(by unfold z1G;omega)
 have ok2:zB (z1G t width) (z0R t (z0S t width))=true:=zf7 (by omega) (by rw [z2E,ho1];omega) (fun i hi=>by
  rw [z2E] at hi;rw [z4P hi];have hi':i < zy t:=(by rw [← ho1];exact hi);have hwu:=z7w hD i (by rw [z5G];exact hi');have h3:=g1 i hi';have h4:=hup i (by rw [hlen];exact hi');have h5:=e1 i (by rw [hlen];exact hi')
  split <;> omega)
 obtain ⟨l2,s2,n2,m2,e2⟩:=z21 ok2;rw [z2E] at l2 e2;have ho2:(z1P t width).length=zy t:=(by unfold z1P;rw [z5p l2,ho1]);have g2:∀ k,k < zy t→(z1P t width).getD k 0=(z0S t width).getD k 0+(z0x (z1G t width) (z0R t (z0S t width))).getD k 0:=fun k hk=>by unfold z1P;exact z4x l2 (by rw [ho1];exact hk)
 refine ⟨ok1,ok2,by unfold z1H;omega,ho1,ho2,?_,fun k hk=>?_⟩
 ·have a1:(z0S t width).sum=(zu t).sum+(z0x (z0u t width) (z0Q t width (zu t))).sum:=(by unfold z0S;exact z9k l1);have a2:(z1P t width).sum=(z0S t width).sum+(z0x (z1G t width) (z0R t (z0S t width))).sum:=(by unfold z1P;exact z9k l2);have a3:z1G t width=z2e (z0u t width) (z0Q t width (zu t)):=rfl;have a4:z1H t width=z2e (z1G t width) (z0R t (z0S t width)):=rfl;rw [a2,a1,a4];omega
 ·have b1:=e1 k (by rw [hlen];exact hk);have b2:=e2 k (by rw [ho1];exact hk);rw [z4O (by rw [hlen];exact hk)] at b1;rw [z4P (by rw [ho1];exact hk)] at b2;have c1:=g1 k hk;have c2:=g2 k hk;refine ⟨by omega,by omega,fun h=>?_,fun h=>?_⟩
  ·rw [if_neg (by rw [h];simp)] at b1;omega
  ·rw [if_neg (by rw [h];simp)] at b2;omega
theorem z9l {P:Nat→Bool} {n:Nat}:(z0z P n).sum=((zk P n).length:Int):=by
 have hz:∀ i,i < (z0z P n).length→P i=false→(z0z P n).getD i 0=0:=fun i hi hP=>by
  rw [z0U] at hi;rw [z5o hi,if_neg (by rw [hP];simp)]
 have:=z5n (l:=z0z P n) (P:=P) (z0z P n).length (Nat.le_refl _) hz;rw [z1w,z0U,zaL,z6j] at this;exact this.symm
theorem z6D {P:Nat→Bool} {n:Nat} (h:¬ 0 < (zk P n).length) {k:Nat} (hk:k < n):P k=false:=by
 cases hP:P k with
 | false=>rfl
 | true =>
  have:k ∈ zk P n:=(by unfold zk;rw [List.mem_filter];exact ⟨List.mem_range.2 hk,hP⟩);exact absurd (List.length_pos_of_mem this) h
theorem za0 {P:Nat→Bool} {n:Nat} {t:Int} {l:List Int} (hl:l.length=n) (hn:n≤100) (ht:0≤t∧t≤300) (h0:0 < (zk P n).length) :
  (z1j l (zt t (z0z P n))).length=n∧(z1j l (zt t (z0z P n))).sum=l.sum+t∧∀ k,k < n→l.getD k 0≤(z1j l (zt t (z0z P n))).getD k 0∧(P k=false→(z1j l (zt t (z0z P n))).getD k 0=l.getD k 0):=by
 have hok:=z3c P (n:=n) (t:=t) (by omega) hn;have hs:=z1s hok;rw [z0U] at hs
 have hpos:0 < n:=by
  have:=(z3o h0).1;omega
 refine ⟨by rw [z5p (by rw [hs,hl]),hl],by rw [z9k (by rw [hs,hl]),z3f hok (by rw [z0U];exact hpos)],fun k hk=>?_⟩;rw [z4x (by rw [hs,hl]) (by rw [hl];exact hk)];have h1:=z1y (t:=t) (l:=z0z P n) k (by rw [hs];exact hk);refine ⟨by omega,fun hP=>?_⟩;rw [z5U hok (by rw [z9l];omega) (by rw [z0U];exact hk) (by rw [z5o hk,if_neg (by rw [hP];simp)])];omega
def z8n (t:T):Bool:=(List.range (zy t)).all (fun k=>zm t 1 k)
theorem zbE {t:T} (hD:z0f t) (hok:zC t=true) {width:Int} (hw:0≤width∧width≤300) :
  (z0d t width).length=zy t∧(z0d t width).sum+t.gap * ((zy t:Int) - 1)=(if width < (zu t).sum+t.gap * ((zy t:Int) - 1)∨z8n t=true then (zu t).sum+t.gap * ((zy t:Int) - 1) else width) ∧
  ∀ k,k < zy t→(zu t).getD k 0≤(z0d t width).getD k 0∧(zm t 1 k=true→(z0d t width).getD k 0=(zu t).getD k 0):=by
 obtain ⟨_,C,hgc,hC,hcel⟩:=z2Y hD;have hCN:=z44 hgc
 have hk1:∀ k,zm t 1 k=true→zm t 0 k=false∧zm t 2 k=false:=fun k h=>by
  simp only [zm,decide_eq_true_eq] at h;simp [zm,h]
 by_cases hr:z0u t width≤0
 ·have e:z0d t width=zu t:=(by unfold z0d;rw [if_pos hr]);rw [e];refine ⟨z1h t,?_,fun k _=>⟨Int.le_refl _,fun _=>rfl⟩⟩;unfold z0u at hr
  split
  ·rfl
  ·rename_i hn
   have:¬ width < (zu t).sum+t.gap * ((zy t:Int) - 1):=fun h=>hn (.inl h);omega
 ·obtain ⟨_,_,hl2,_,ho2,hsum,hk⟩:=z3S hD hok hw (by omega);have hrr:z0u t width=width - ((zu t).sum+t.gap * ((zy t:Int) - 1)):=rfl;have hnl:¬ width < (zu t).sum+t.gap * ((zy t:Int) - 1):=(by omega);by_cases h0:0 < (zk (zm t 0) (zy t)).length
  ·have e:z0d t width=z1j (z1P t width) (zt (z1H t width) (z0z (zm t 0) (zy t))):=(by unfold z0d;rw [if_neg hr,if_pos h0]);obtain ⟨a1,a2,a3⟩:=za0 ho2 (by omega) hl2 h0
   have hnf:¬ z8n t=true:=fun h=>by
    have hg:=z3o h0;have:=List.all_eq_true.1 h _ (List.mem_range.2 hg.1);have:=(hk1 _ this).1;rw [hg.2] at this
    cases this
   rw [e];refine ⟨a1,?_,fun k hkk=>?_⟩
   ·rw [if_neg (by rintro (h | h);exact hnl h;exact hnf h),a2];omega
   ·have b1:=a3 k hkk;have b2:=hk k hkk;refine ⟨by omega,fun h=>?_⟩;have c:=hk1 k h;rw [b1.2 c.1,b2.2.2.2 c.1,b2.2.2.1 c.2]
  ·by_cases h2:0 < (zk (zm t 2) (zy t)).length
   ·have e:z0d t width=z1j (z1P t width) (zt (z1H t width) (z0z (zm t 2) (zy t))):=(by unfold z0d;rw [if_neg hr,if_neg h0,if_pos h2]);obtain ⟨a1,a2,a3⟩:=za0 ho2 (by omega) hl2 h2
    have hnf:¬ z8n t=true:=fun h=>by
     have hg:=z3o h2;have:=List.all_eq_true.1 h _ (List.mem_range.2 hg.1);have:=(hk1 _ this).2;rw [hg.2] at this
     cases this
    rw [e];refine ⟨a1,?_,fun k hkk=>?_⟩
    ·rw [if_neg (by rintro (h | h);exact hnl h;exact hnf h),a2];omega
    ·have b1:=a3 k hkk;have b2:=hk k hkk;refine ⟨by omega,fun h=>?_⟩;have c:=hk1 k h;rw [b1.2 c.2,b2.2.2.2 c.1,b2.2.2.1 c.2]
   ·have e:z0d t width=z1P t width:=(by unfold z0d;rw [if_neg hr,if_neg h0,if_neg h2])
    have hfx:z8n t=true:=List.all_eq_true.2 (fun k hkr=>by
     have hkk:=List.mem_range.1 hkr;have n0:=z6D h0 hkk;have n2:=z6D h2 hkk;have:=z74 hkk;simp only [zm,decide_eq_false_iff_not] at n0 n2;simp only [zm,decide_eq_true_eq]
     omega)
    have heq:z1P t width=zu t:=by
     apply List.ext_getElem (by rw [ho2,z1h]);intro i h1 h3;have hi:i < zy t:=(by rw [ho2] at h1;exact h1);have b:=hk i hi;have:=(b.2.2.2 (z6D h0 hi)).trans (b.2.2.1 (z6D h2 hi))
     simpa [List.getD,h1,h3] using this
    rw [e,heq];refine ⟨z1h t,by rw [if_pos (.inr hfx)],fun k _=>⟨Int.le_refl _,fun _=>rfl⟩⟩
def z5J (t:T) (width:Int):List Int:=if (zC t && inB width 0 300)=true then z0d t width else []
def z8H (t:T) (l:List Int) (x:GC):List ByteArray:=zS (z18 (z2m l t.gap x) (zQ (zJ t x)))
def z19 (t:T) (l:List Int) (gs:List GC):List (List ByteArray):=gs.map (z8H t l)
def z52 (t:T) (width:Int):List (List ByteArray):=if (zC t && inB width 0 300)=true then z19 t (z0d t width) (gOf t).cells else []
theorem zbF (l:List Int) (gap:Int) (x:GC):-9223372036854775808≤z2m l gap x∧z2m l gap x≤9223372036854775807:=by
 unfold z2m z1I
 split
 ·omega
 ·exact zhl _
theorem z46 (t:T) (l:List Int) (gs:List GC):(z19 t l gs).length=gs.length:=by simp [z19]
theorem zf8 (t:T) (l:List Int) {gs:List GC} {k:Nat} (h:k < gs.length):(z19 t l gs).getD k []=z8H t l (gs.getD k dG):=by simp [z19,List.getD,h]
theorem z92 (t:T) (l:List Int) {gs:List GC} {k:Nat} (h:k < gs.length):(z19 t l gs).take (k+1)=(z19 t l gs).take k ++ [z8H t l (gs.getD k dG)]:=by
 rw [List.take_succ_eq_append_getElem (by rw [z46];exact h)];simp [z19,List.getD,h]
theorem zgH (t:T) (l:List Int) (x:GC):(z8H t l x).length≤31:=by
 have h1:=(zbz (z2m l t.gap x) (zQ (zJ t x))).1;have h2:=z5V (zJ t x);unfold z8H;omega
theorem zf9 (t:T) (l:List Int) (x:GC):∀ y ∈ z8H t l x,y.size≤maxLen:=by
 refine zjf (n:=maxLen) ?_ _ (fun y _=>?_)
 ·have:=(zbF l t.gap x).2;unfold maxLen;omega
 ·have:=y.2.2;unfold maxLen;omega
theorem z93 (t:T) (l:List Int) (gs:List GC):∀ k ∈ z19 t l gs,∀ y ∈ k,y.size≤maxLen:=by
 intro k hk y hy;obtain ⟨x,_,rfl⟩:=List.mem_map.1 hk;exact zf9 t l x y hy
def z75 (t:T) (l:List Int):List Int:=z0b (rcs (gOf t).cells (z19 t l (gOf t).cells)) t.rows.length
def z0y (t:T) (width:Int):List Int:=if (zC t && inB width 0 300)=true then z75 t (z0d t width) else []
theorem ziA {t:T} (hok:zC t=true):(gOf t).rows=(t.rows.length:Nat):=by rw [z2k hok]
theorem ziB {t:T} (hD:z0f t) (hok:zC t=true):∀ k,k < (gOf t).cells.length→∃ a m:Nat,((gOf t).cells.getD k dG).row=a∧((gOf t).cells.getD k dG).rows=m∧1≤m∧a+m≤t.rows.length:=by
 intro k hk;have hl:=z3t hok hD;rw [z2k hok] at hk ⊢;have hs:=z3e hl (z2j (d:=dG) (show k < (zL t).length from hk));unfold z1q at hs;exact ⟨((zL t).getD k dG).row.toNat,((zL t).getD k dG).rows.toNat,by show ((zL t).getD k dG).row=_;omega,by show ((zL t).getD k dG).rows=_;omega,by omega,by omega⟩
theorem ziC {t:T} (hD:z0f t) (hok:zC t=true) (j:Nat):∀ k,j≤k→k < (gOf t).cells.length→((gOf t).cells.getD j dG).row≤((gOf t).cells.getD k dG).row
 | 0,h,_=>by
  obtain rfl:j=0:=by omega
  exact Int.le_refl _
 | k+1,h,hk=>by
  rcases Nat.lt_or_ge k j with h1 | h1
  ·obtain rfl:j=k+1:=by omega
   exact Int.le_refl _
  ·have ih:=ziC hD hok j k h1 (by omega);have hl:=z3t hok hD;have hk':k+1 < (zL t).length:=(by rw [z2k hok] at hk;exact hk);have ha:=(z8B hl hk').after (by omega);rw [z2k hok] at ih ⊢;have e1:(⟨(t.rows.length:Int),z0q (max 1 (t.cols.length:Int)) (zL t),zL t⟩:G).cells=zL t:=rfl;rw [e1] at ih ⊢;have e2:k+1 - 1=k:=(by omega);rw [e2] at ha;omega
theorem zjO {t:T} (hD:z0f t):(gOf t).cells.length≤40:=(z2Y hD).1
theorem zfa {t:T} (hD:z0f t) (hok:zC t=true):t.rows.length≤8:=(z3t hok hD).rows
theorem zfb (t:T) (l:List Int) (gs:List GC):∀ k,k < gs.length→((z19 t l gs).getD k []).length≤1000:=fun k hk=>by
 rw [zf8 t l hk];have:=zgH t l (gs.getD k dG);omega
theorem ziD (t:T) (l:List Int) (gs:List GC):∀ c ∈ rcs gs (z19 t l gs),c.2.2≤1000:=zep (z46 t l gs) (fun k hk=>by have:=zfb t l gs k hk;show (((z19 t l gs).getD k []).length:Int)≤1000;omega)
theorem zgI {l:List Int} {x:GC} {a m:Nat} (hr:x.row=a) (hm:x.rows=m) (h1:1≤m) (h2:a+m≤l.length) (hb:-9223372036854775808≤zF l (a+m) - zF l a∧zF l (a+m) - zF l a≤9223372036854775807):z7y l x=zF l (a+m) - zF l a:=by
 obtain ⟨e1,e2⟩:=zd5 (l:=l) (x:=zd6 x) (c:=a) (m:=m) hr hm l.length (Nat.le_refl _);have e3:min l.length (a+m)=a+m:=(by omega);have e4:min l.length a=a:=(by omega);rw [e3,e4] at e2;unfold z7y z2m;rw [z3d (by rw [e1];omega),e2,Int.zero_mul,Int.add_zero,z33 hb]
theorem zjP (cs:List z0H) (R r k:Nat) {a:Nat} (ha:a≤r):zF (hsL cs R r k) (r+1) - zF (hsL cs R r k) a=(z0b cs r).sum - zF (z0b cs r) a+z3a cs r k:=by
 have h1:zF (hsL cs R r k) a=zF (z0b cs r) a:=by
  rw [zF,zF,hsL,List.take_append_of_le_length (by rw [z0N];exact ha)]
 have h2:zF (hsL cs R r k) (r+1)=(z0b cs r).sum+z3a cs r k:=by
  rw [zF,hsL,List.take_append,z0N,show r+1 - r=1 by omega,List.take_of_length_le (by rw [z0N];omega)];simp
 rw [h1,h2];omega
theorem zev {cs:List z0H} (hc:∀ c ∈ cs,c.2.2≤1000) {r:Nat} (hr:r≤88) (a:Nat):0≤(z0b cs r).sum - zF (z0b cs r) a∧(z0b cs r).sum - zF (z0b cs r) a≤88000:=by
 refine ⟨zaA (z5g cs r) a,?_⟩;have h1:(z0b cs r).sum=((z0b cs r).take a).sum+((z0b cs r).drop a).sum:=(by rw [← List.sum_append,List.take_append_drop]);have h2:=zaG (l:=(z0b cs r).drop a) (fun x hx=>⟨z5g cs r x (List.mem_of_mem_drop hx),z7m (by omega) cs hc r x (List.mem_of_mem_drop hx)⟩);rw [List.length_drop,z0N] at h2;rw [zF];omega
theorem zji {cs:List z0H} (hc:∀ c ∈ cs,c.2.2≤1000) {R r k:Nat} (hR:R≤88) (hr:r < R) {x:GC} {a m:Nat} (hrx:x.row=a) (hmx:x.rows=m) (h1:1≤m) (h2:a+m=r+1):z7y (hsL cs R r k) x=(z0b cs r).sum - zF (z0b cs r) a+z3a cs r k:=by
 have hs:=zjP cs R r k (show a≤r by omega);have hb:=zev hc (r:=r) (by omega) a;have hcb:=z6B (by omega) hc r k;rw [← h2] at hs;rw [zgI hrx hmx h1 (by rw [z8G cs k hr];omega) (by rw [hs];omega),hs]
theorem zjj {cs:List z0H} {R r k:Nat} (h:∀ j,k≤j→j < cs.length→∀ c,cs[j]?=some c→r < c.1∧1≤c.2.1):hsL cs R r k=hsL cs R r cs.length:=by
 have e:z3a cs r cs.length=z3a cs r k:=by
  rw [z3a,List.take_length,z3a];have h2:∀ f:Int→z0H→Int,cs.foldl f 0=(cs.drop k).foldl f ((cs.take k).foldl f 0):=fun f=>by rw [← List.foldl_append,List.take_append_drop]
  rw [h2];refine zbk _ _ _ (fun c hc=>?_);rw [z0N];obtain ⟨i,hi,e⟩:=List.mem_iff_getElem.mp hc;rw [List.length_drop] at hi;refine h (k+i) (by omega) (by omega) c ?_;rw [List.getElem?_eq_getElem (by omega),← e,List.getElem_drop]
 rw [hsL,hsL,e]
end
section
open Go.RowKit Go.BigFrame
def z2N (t:T) (x:GC):C:=(t.rows.getD x.row.toNat dR).cells.getD x.ins.toNat dC
theorem zfc (ac ar:Option Addr) (cc cr:Nat) (t:T) (x:GC) {C:Nat} (hx:Cel t C x) (w:World) {z:Nat} (hr:z01 w z (.slice ar t.rows.length cr) t.rows) :
  Calls Tryz.prog 133 #[.agg #[.slice ac t.cols.length cc,.int .i64 t.head,.int .i64 t.foot,.slice ar t.rows.length cr,.int .i64 t.gap],.agg #[.int .i64 x.row,.int .i64 x.col,.int .i64 x.rows,.int .i64 x.cols,.int .i64 x.ins]] w fun e w'=>e=.returned (.agg #[.string (z2N t x).s,.int .i64 (z2N t x).c,.int .i64 (z2N t x).r,.int .i64 (z2N t x).a1,.int .i64 (z2N t x).b1,.int .i64 (z2N t x).a2,.int .i64 (z2N t x).b2,.int .i64 (z2N t x).a3,.int .i64 (z2N t x).b3,.int .i64 (z2N t x).a4,.int .i64 (z2N t x).b4])∧(z2N t x).s.size≤maxLen∧Below w.heap.size w w':=by
 obtain ⟨rn,jn,cn,mn,e1,e2,e3,e4,h1,h2,h3,h4,h5⟩:=hx.ex;have HTx:Hid (z2N t x=(t.rows.getD rn dR).cells.getD jn dC):=(by rw [Hid,z2N,e1,e2,Int.toNat_natCast,Int.toNat_natCast]);have hmx:Tryz.prog.follows .mixedOrders=true:=(by kernel_rfl);have K1:=ze (Below.refl w.heap.size w) (.cells #[.slice ac t.cols.length cc,.int .i64 t.head,.int .i64 t.foot,.slice ar t.rows.length cr,.int .i64 t.gap] 26);have X1:=zj w (.cells #[.slice ac t.cols.length cc,.int .i64 t.head,.int .i64 t.foot,.slice ar t.rows.length cr,.int .i64 t.gap] 26);have hs1:(w.alloc (.cells #[.slice ac t.cols.length cc,.int .i64 t.head,.int .i64 t.foot,.slice ar t.rows.length cr,.int .i64 t.gap] 26)).heap.size=w.heap.size+1:=(by simp);rw [e1,e2];clear e1 e2 e3 e4;go_enter Tryz.func133,Tryz.ntmps133;go_upto_region 1 with fail
 have K2:=ze K1 (.cells #[.int .i64 (rn:Int),.int .i64 x.col,.int .i64 x.rows,.int .i64 x.cols,.int .i64 (jn:Int)] 51);have X2:=zj (w.alloc (.cells #[.slice ac t.cols.length cc,.int .i64 t.head,.int .i64 t.foot,.slice ar t.rows.length cr,.int .i64 t.gap] 26)) (.cells #[.int .i64 (rn:Int),.int .i64 x.col,.int .i64 x.rows,.int .i64 x.cols,.int .i64 (jn:Int)] 51);have X1':=(Below.heap_alloc (w.alloc (.cells #[.slice ac t.cols.length cc,.int .i64 t.head,.int .i64 t.foot,.slice ar t.rows.length cr,.int .i64 t.gap] 26)) (.cells #[.int .i64 (rn:Int),.int .i64 x.col,.int .i64 x.rows,.int .i64 x.cols,.int .i64 (jn:Int)] 51) w.heap.size (by omega)).trans X1;rw [hs1] at X2;have hs2:((w.alloc (.cells #[.slice ac t.cols.length cc,.int .i64 t.head,.int .i64 t.foot,.slice ar t.rows.length cr,.int .i64 t.gap] 26)).alloc (.cells #[.int .i64 (rn:Int),.int .i64 x.col,.int .i64 x.rows,.int .i64 x.cols,.int .i64 (jn:Int)] 51)).heap.size=w.heap.size+2:=(by simp);generalize (w.alloc (.cells #[.slice ac t.cols.length cc,.int .i64 t.head,.int .i64 t.foot,.slice ar t.rows.length cr,.int .i64 t.gap] 26)).alloc (.cells #[.int .i64 (rn:Int),.int .i64 x.col,.int .i64 x.rows,.int .i64 x.cols,.int .i64 (jn:Int)] 51)=W2 at K2 X2 X1' hs2 ⊢;have K3:=ze K2 (.cells #[.string ⟨#[]⟩,.int .i64 0,.int .i64 0,.int .i64 0,.int .i64 0,.int .i64 0,.int .i64 0,.int .i64 0,.int .i64 0,.int .i64 0,.int .i64 0] 78);have X3:=zj W2 (.cells #[.string ⟨#[]⟩,.int .i64 0,.int .i64 0,.int .i64 0,.int .i64 0,.int .i64 0,.int .i64 0,.int .i64 0,.int .i64 0,.int .i64 0,.int .i64 0] 78);have X1'':=(Below.heap_alloc W2 (.cells #[.string ⟨#[]⟩,.int .i64 0,.int .i64 0,.int .i64 0,.int .i64 0,.int .i64 0,.int .i64 0,.int .i64 0,.int .i64 0,.int .i64 0,.int .i64 0] 78) w.heap.size (by omega)).trans X1';have X2':=(Below.heap_alloc W2 (.cells #[.string ⟨#[]⟩,.int .i64 0,.int .i64 0,.int .i64 0,.int .i64 0,.int .i64 0,.int .i64 0,.int .i64 0,.int .i64 0,.int .i64 0,.int .i64 0] 78) (w.heap.size+1) (by omega)).trans X2;rw [show W2.heap.size=w.heap.size+1+1 by omega] at X3;generalize W2.alloc (.cells #[.string ⟨#[]⟩,.int .i64 0,.int .i64 0,.int .i64 0,.int .i64 0,.int .i64 0,.int .i64 0,.int .i64 0,.int .i64 0,.int .i64 0,.int .i64 0] 78)=W at K3 X3 X1'' X2' ⊢;clear K1 X1 hs1 K2 X2 X1' hs2;obtain ⟨rb,roff,rcap,re,rc1,rc2,rbl,u,hu0,_,hu⟩:=At.get (hr.kept K3) h1;simp only [Value.slice.injEq,true_and] at re;obtain ⟨rfl,rfl⟩:=re;obtain ⟨qb,qoff,qcap,qe,qc1,qc2,qbl,hv,hsl⟩:=At.get hu h2;subst qe;obtain ⟨v0,v1,v2,v3,v4,v5,v6,v7,v8,v9,v10⟩:=hv;have l1:w.heap.size < W.heap.size:=(bL X1'');have l2:w.heap.size+1 < W.heap.size:=(bL X2');have hne:=z0v W;have m0:=zi (a:=⟨w.heap.size,3,none⟩) l1 (zf (p:=3) X1'');have m1:=zi (a:=⟨w.heap.size+1,0,none⟩) l2 (zf (p:=0) X2');have m2:=zi (a:=⟨w.heap.size+1,4,none⟩) l2 (zf (p:=4) X2');have m3:=zi rbl hu0;have n0:=zi qbl v0;have n1:=zi qbl v1;have n2:=zi qbl v2;have n3:=zi qbl v3;have n4:=zi qbl v4;have n5:=zi qbl v5;have n6:=zi qbl v6;have n7:=zi qbl v7;have n8:=zi qbl v8;have n9:=zi qbl v9;have n10:=zi qbl v10;have HSZ:Hid ((z2N t x).s.size≤maxLen):=(by rw [Hid,HTx.out];exact hsl);have HK:=Hd K3;have HX3:=Hd X3;unfold maxLen at rc2 qc2;generalize (t.rows.getD rn dR).cells.getD jn dC=y at *;generalize (t.rows.getD rn dR).cells.length=rl at h2 m3 qc1;clear hu hu0 hr h3 h4 h5 hx K3 X3 X1'' X2' v0 v1 v2 v3 v4 v5 v6 v7 v8 v9 v10 hsl;refine z1a 11 hmx (by rfl) (by rfl) (by kernel_rfl) (by kernel_rfl) ?_;simp only [List.take_succ_cons,List.take_zero];repeat (go_big_quiet_step (fail))
 refine wpQuiet_nil ?_;intro W5 hw';obtain ⟨⟨Wx,hW5⟩,hw''⟩:=hw';subst hw'';have l3:w.heap.size+1+1 < W.heap.size:=(bL HX3.out);have X5:=(hW5.block _ l3).trans HX3.out;obtain ⟨⟨c0,c1,c2,c3,c4,c5,c6,c7,c8,c9,c10⟩,f0,f1,f2,f3,f4,f5,f6,f7,f8,f9,f10⟩:=z17 X5;have HK5:=Hd (zh HK.out hW5);clear m0 m1 m2 m3 n0 n1 n2 n3 n4 n5 n6 n7 n8 n9 n10 hne hW5 X5;rw [if_pos (by rfl)];go_simp;go_wp2;exact bodyPost_ret (v:=.agg #[.string y.s,.int .i64 y.c,.int .i64 y.r,.int .i64 y.a1,.int .i64 y.b1,.int .i64 y.a2,.int .i64 y.b2,.int .i64 y.a3,.int .i64 y.b3,.int .i64 y.a4,.int .i64 y.b4]) (by simp [results,Tryz.results133,go_sem,c0,c1,c2,c3,c4,c5,c6,c7,c8,c9,c10]) rfl ⟨by rw [HTx.out],HSZ.out,HK5.out.trans ((z2G W5 (w.heap.size+1+1) (.string y.s) (.int .i64 y.c) (.int .i64 y.r) (.int .i64 y.a1) (.int .i64 y.b1) (.int .i64 y.a2) (.int .i64 y.b2) (.int .i64 y.a3) (.int .i64 y.b3) (.int .i64 y.a4) (.int .i64 y.b4)).below HK5.out.size (by omega))⟩
end
section
open Go.RowKit
theorem z6F {t:T} {x:GC} {C:Nat} (hx:Cel t C x) {w:World} {z:Nat} {v:Value} (hr:z01 w z v t.rows):(zJ t x).size≤maxLen:=by
 obtain ⟨rn,jn,cn,mn,e1,e2,e3,e4,h1,h2,h3,h4,h5⟩:=hx.ex;rw [zJ,e1,e2,Int.toNat_natCast,Int.toNat_natCast];obtain ⟨rb,roff,rcap,re,rc1,rc2,rbl,u,hu0,_,hu⟩:=At.get hr h1;obtain ⟨qb,qoff,qcap,qe,qc1,qc2,qbl,hv,hsl⟩:=At.get hu h2;exact hsl
theorem zdL (s:ByteArray) (x1 x2 x3 x4 x5 x6 x7 x8 x9 x10:Value) (W:World):(Instr.field 78 (.agg #[.string s,x1,x2,x3,x4,x5,x6,x7,x8,x9,x10]) 0).run Tryz.prog W=.ok (.string s) W:=by kernel_rfl
theorem za3 (ac ar:Option Addr) (cc cr:Nat) (t:T) (x:GC) {C:Nat} (hx:Cel t C x) (w:World) {z:Nat} (hr:z01 w z (.slice ar t.rows.length cr) t.rows) :
  Calls Tryz.prog 102 #[.agg #[.slice ac t.cols.length cc,.int .i64 t.head,.int .i64 t.foot,.slice ar t.rows.length cr,.int .i64 t.gap],.agg #[.int .i64 x.row,.int .i64 x.col,.int .i64 x.rows,.int .i64 x.cols,.int .i64 x.ins]] w fun e w'=>e=.returned (.string (zJ t x))∧(zJ t x).size≤maxLen∧Below w.heap.size w w':=by
 have HC:=Hd (zfc ac ar cc cr t x hx);have hfl:=zdL;have K2:=ze (ze (Below.refl w.heap.size w) (.cells #[.slice ac t.cols.length cc,.int .i64 t.head,.int .i64 t.foot,.slice ar t.rows.length cr,.int .i64 t.gap] 26)) (.cells #[.int .i64 x.row,.int .i64 x.col,.int .i64 x.rows,.int .i64 x.cols,.int .i64 x.ins] 51);have HR:=Hd (hr.kept K2);have HK:=Hd K2;clear hr hx K2;go_enter Tryz.func102,Tryz.ntmps102;go_wp2_with fail
 refine (HC.out _ HR.out).mono ?_;rintro e w1 ⟨rfl,hsz,hb1⟩;have HK1:=Hd (zh HK.out hb1);clear hb1 HK HR HC;go_wp2;go_ret;exact ⟨rfl,hsz,HK1.out⟩
end
end Go.Proofs.YtggmjiddadjilahGreat
