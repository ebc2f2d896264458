/-
  PROVED HERE: the program's map of the slots that cells have: what it holds behind one slot more; nothing else is turned. Also: 1 more texts of the same proof.
-/
import Derived.Test.YtggmjiddadjilamB3
import Derived.Maps.OwnIn
import Derived.WideKeyEntry
set_option maxRecDepth 1000000
set_option maxHeartbeats 40000000
namespace Go.Proofs.Ytggmjiddadjilam
section
open Go.RowKit Go.Shelf
open Go.Maps (Keyed)
open Go.ChangeMaps (setBlock)
open Go.WideElems (Fit)
theorem z5u:laidOutB Try.prog=true:=by kernel_rfl
theorem z70:WideMaps.KeyLaw Try.prog 156:=deep_law_laid z5u (m:=2) (by omega) (of_decide_eq_true (by kernel_rfl)) (by kernel_rfl) (by rw [Try.underlying156])
theorem z2h:Keyed Try.prog 156:=Keyed.of_law z70
theorem z5v (w:World):(zeroValue 3).run Try.prog w=.ok (.int .i64 0) w:=by kernel_rfl
def slK (x:Nat × Nat):Lit:=.string (keyBytes [.int .i64 x.1,.int .i64 x.2])
theorem z6y {n:Nat} (h:n≤1000):(Lit.int .i64 (n:Int)).wf=true :=
 WalkArith.wf_i64 (by omega)
theorem z38 (x:Sl):keyOf Try.prog 156 (slV x.1)=some (slK x.1):=by
 have wa:=z6y x.2.1;have wb:=z6y x.2.2;have hkt:Try.prog.keyType 156=true:=(by kernel_rfl);have hcs:Try.prog.cellsOf 156=2:=(by kernel_rfl);have hci:Try.prog.cellsOf 3=1:=(by kernel_rfl);obtain ⟨m,hm⟩:∃ m,Try.prog.types.size=m+1:=⟨Try.prog.types.size - 1,by have:0 < Try.prog.types.size:=of_decide_eq_true (by kernel_rfl);omega⟩;unfold keyOf slV slK;simp only [Try.underlying156];rw [if_pos (by simp [hkt,Value.formed,Try.underlying156,hcs]),hm];unfold Program.keyLits;simp [Try.underlying156,Value.cells,hcs,hci,Program.keyLits,Try.underlying3,wa,wb]
section
variable {H:Type} {P:Program} {w:World} {t k e:TypeId} {R:Value→Option (DataW H × List MemPlace)} {b n:Nat} {D:DataW H}
theorem z5w (hown:w.ownsMap P k R b n D) (K:Keyed P k) (ht:P.underlying t=some (.map k e)) (hn:n < maxLen) {z:Value} (hz:∀ u:World,(zeroValue e).run P u=.ok z u) {zd:DataW H} {zp:List MemPlace} (hzd:R z=some (zd,zp))
  {key:Value} {kl:Lit} (hkey:keyOf P k key=some kl) {val:Value} {d:DataW H} {ps:List MemPlace} (hv:R val=some (d,ps)) :
  ∃ (v0:Value) (st:Nat) (w1 w2:World),(Instr.mapEntry t (.map (some b)) key).run P w=.ok (.tuple #[v0,goInt st]) w1∧w.mapTurned w1 b ∧
   (∀ v,(Instr.lookup t (.map (some b)) key false).run P w=.ok v w→(Instr.lookup t (.map (some b)) key false).run P w1=.ok v w1) ∧
   (Instr.entryStore t (.map (some b)) (goInt st) val).run P w1=.ok () w2∧w2.ownsMap P k R b (n+1) (D.put kl d)∧w.mapTurned w2 b:=by
 have hself:=hown.turned_refl;obtain ⟨u1,hu1,ho1,hm1⟩:=hown.store K ht hn hkey hzd;obtain ⟨u2,hu2,ho2,hm2⟩:=hown.store K ht hn hkey hv;have hown':=hown;obtain ⟨es,clock,hb,F,hs,rfl⟩:=hown;obtain ⟨s1,s2,_⟩:=F.stamped
 have hst:∀ (es1:Array MapEntry) (c1 st i:Nat) (W:World),W.heap[b]?=some (.map es1 c1)→es1.findIdx? (fun e=>((e.born:Nat):Int) == ((st:Nat):Int))=some i →
   (Instr.entryStore t (.map (some b)) (goInt st) val).run P W=.ok () (setBlock W b (.map (es1.modify i fun e=>{ e with val:=val }) c1)):=fun es1 c1 st i W hW hi=>by
  simp [Instr.entryStore,MapKept.run_getObj_map hW,asInt,asIntOf,goInt,hi,MapKept.run_setObj_map _ hW,Result.andThen,setBlock]
 rcases K.find w hkey es.toList F.keys with ⟨h1,hno⟩ | ⟨j,e0,h1,h2,h3⟩
 ·have r1:(Instr.mapUpdate t (.map (some b)) key z).run P w=.ok () (setBlock w b (.map (es.push ⟨key,z,clock⟩) (clock+1))):=by
   simp [Instr.mapUpdate,run_underlying ht,MapKept.run_getObj_map hb,K.check w false hkey,h1,MapKept.run_setObj_map _ hb,Result.andThen,setBlock]
  have r2:(Instr.mapUpdate t (.map (some b)) key val).run P w=.ok () (setBlock w b (.map (es.push ⟨key,val,clock⟩) (clock+1))):=by
   simp [Instr.mapUpdate,run_underlying ht,MapKept.run_getObj_map hb,K.check w false hkey,h1,MapKept.run_setObj_map _ hb,Result.andThen,setBlock]
  rw [hu1] at r1;rw [hu2] at r2;simp only [Result.ok.injEq,true_and] at r1 r2;subst r1 r2;have hw2:=ChangeMaps.heap_setBlock_same hb (.map (es.push ⟨key,z,clock⟩) (clock+1));refine ⟨z,clock,_,_,?_,hm1,?_,?_,ho2,hm2⟩
  ·simp [Instr.mapEntry,run_underlying ht,MapKept.run_getObj_map hb,K.check w false hkey,h1,hz,MapKept.run_setObj_map _ hb,Result.andThen,setBlock]
  ·intro v hv
   have e0:(Instr.lookup t (.map (some b)) key false).run P w=.ok z w:=by
    rcases Maps.fit_look false K ht (hz w) hb F hkey with ⟨h,_⟩ | ⟨e0,_,hm,hk,_⟩
    ·exact h
    ·exact absurd hk (hno e0 hm)
   rw [e0] at hv;simp only [Result.ok.injEq,and_true] at hv;subst hv;obtain ⟨es',ck',hb',F',_,_⟩:=ho1;rw [hw2] at hb';simp only [Option.some.injEq,Obj.map.injEq] at hb';obtain ⟨rfl,rfl⟩:=hb'
   rcases Maps.fit_look false K ht (hz _) hw2 F' hkey with ⟨h,hn',_⟩ | ⟨e1,_,hm,hk,h,_⟩
   ·exact h
   ·rw [h]
    have:e1.val=z:=by
     simp only [Array.toList_push,List.mem_append,List.mem_singleton] at hm
     rcases hm with hm | rfl
     ·exact absurd hk (hno e1 hm)
     ·rfl
    simp [this]
  ·have hidx:(es.push ⟨key,z,clock⟩).findIdx? (fun e=>((e.born:Nat):Int) == ((clock:Nat):Int))=some es.size:=by
    rw [WideElems.findIdx_arr]
    have:=WideElems.findIdx_born (l:=(es.push ⟨key,z,clock⟩).toList) (j:=es.size) (e0:=⟨key,z,clock⟩) (by
     simp only [Array.toList_push,List.map_append,List.map_cons,List.map_nil];refine List.nodup_append.2 ⟨s2,by simp,fun a ha c hc e1=>?_⟩;simp only [List.mem_singleton] at hc;obtain ⟨x,hx,rfl⟩:=List.mem_map.1 ha;have:=s1 x hx
     omega) (by simp)
    exact this
   have hmod:(es.push ⟨key,z,clock⟩).modify es.size (fun e=>{ e with val:=val })=es.push ⟨key,val,clock⟩:=by
    apply Array.ext';rw [Array.toList_modify,Array.toList_push,Array.toList_push,← Array.length_toList,WideElems.modify_last]
   rw [hst _ _ _ _ _ hw2 hidx,hmod];simp [setBlock]
 ·have hj:es[j]?=some e0:=(by simpa using h2)
  have hsame:es.modify j (fun e=>{ e with key:=key })=es:=by
   apply Array.ext';rw [Array.toList_modify,ChangeMaps.modify_eq_set _ _ _ _ h2];have:({ e0 with key:=key }:MapEntry)=e0:=(by rw [← h3]);rw [this];exact WideElems.set_self _ _ _ h2
  have hw:setBlock w b (.map es clock)=w:=by
   have e:w.heap.setIfInBounds b (.map es clock)=w.heap:=by
    apply Array.ext_getElem?;intro i;by_cases hi:i=b
    ·subst hi;exact (ChangeMaps.heap_setBlock_same hb _).trans hb.symm
    ·exact ChangeMaps.heap_setBlock_other hb _ hi
   unfold setBlock;rw [e]
  have r2:(Instr.mapUpdate t (.map (some b)) key val).run P w=.ok () (setBlock w b (.map (es.modify j (fun e'=>{ e' with key:=key,val:=val })) clock)):=by
   simp [Instr.mapUpdate,run_underlying ht,MapKept.run_getObj_map hb,K.check w false hkey,h1,hj,h3,K.stays w hkey,MapKept.run_setObj_map _ hb,Result.andThen,setBlock]
  rw [hu2] at r2;simp only [Result.ok.injEq,true_and] at r2;subst r2
  have r1:(Instr.mapEntry t (.map (some b)) key).run P w=.ok (.tuple #[e0.val,goInt e0.born]) (setBlock w b (.map es clock)):=by
   simp [Instr.mapEntry,run_underlying ht,MapKept.run_getObj_map hb,K.check w false hkey,h1,hj,h3,K.stays w hkey,hsame,MapKept.run_setObj_map _ hb,Result.andThen,setBlock]
  rw [hw] at r1
  have hidx:es.findIdx? (fun e=>((e.born:Nat):Int) == ((e0.born:Nat):Int))=some j:=by
   rw [WideElems.findIdx_arr];exact WideElems.findIdx_born s2 h2
  have hmod:es.modify j (fun e=>{ e with val:=val })=es.modify j (fun e'=>{ e' with key:=key,val:=val }):=by
   apply Array.ext';rw [Array.toList_modify,Array.toList_modify,ChangeMaps.modify_eq_set _ _ _ _ h2,ChangeMaps.modify_eq_set _ _ _ _ h2,← h3]
  exact ⟨e0.val,e0.born,w,_,r1,hself,fun v hv=>hv,by rw [hst _ _ _ _ _ hb hidx,hmod],ho2,hm2⟩
end
def zA (w:World) (B:Nat) (L:List (Nat × Nat)):Prop :=
 ∃ D:DataW Unit,w.ownsMap Try.prog 156 (plainElem Try.prog 3) B L.length D∧(L.Nodup→Maps.size D=L.length)∧(∀ x:Sl,Maps.has D (slK x.1)=decide (x.1 ∈ L)) ∧
  ∀ x:Sl,D.atKey (slK x.1) (.lit (.int .i64 0))=.lit (.int .i64 (L.count x.1:Nat))
theorem zA.lt {w:World} {B:Nat} {L:List (Nat × Nat)} (h:zA w B L):B < w.heap.size:=h.choose_spec.1.lt
theorem zA.of_block {w w':World} {B:Nat} {L:List (Nat × Nat)} (h:zA w B L) (hb:w'.heap[B]?=w.heap[B]?):zA w' B L:=by
 obtain ⟨D,⟨es,clock,h1,h2⟩,h3⟩:=h;exact ⟨D,⟨es,clock,hb.trans h1,h2⟩,h3⟩
theorem zA.notCells {w:World} {B:Nat} {L:List (Nat × Nat)} (h:zA w B L):∃ o,w.heap[B]?=some o∧o.isCells=false:=by
 obtain ⟨D,⟨es,clock,h1,_⟩,_⟩:=h;exact ⟨_,h1,rfl⟩
theorem z4L {x y:Sl} (h:slK x.1=slK y.1):x.1=y.1:=by
 have:=z2h.inj (z38 x) ((z38 y).trans (by rw [h]))
 have h2:x.1.1=y.1.1∧x.1.2=y.1.2:=by
  simp [slV] at this;omega
 exact Prod.ext h2.1 h2.2
theorem zA.look {w:World} {B:Nat} {L:List (Nat × Nat)} (h:zA w B L) (x:Sl):(Instr.lookup 136 (.map (some B)) (slV x.1) false).run Try.prog w=.ok (.int .i64 (L.count x.1:Nat)) w:=by
 obtain ⟨D,hown,_,_,hat⟩:=h;obtain ⟨c,hrun,hc,_⟩:=hown.lookup_int z2h Try.underlying136 Try.underlying3 (z5v _) (z38 x);rw [hat x] at hc;rw [hrun];have e:((L.count x.1:Nat):Int)=c:=(by injection hc with hc;injection hc);rw [e]
theorem zA.len {w:World} {B:Nat} {L:List (Nat × Nat)} (h:zA w B L) (hL:L.Nodup) (ty:TypeId):(Builtin.len_ #[136] ty #[.map (some B)]).run Try.prog w=.ok (.int .i64 L.length) w:=by
 obtain ⟨D,hown,hs,_⟩:=h;rw [hown.len Try.underlying136 ty,hs hL]
theorem zA.new (w:World):zA (w.alloc (.map #[] 0)) w.heap.size [] :=
 ⟨.map [],World.ownsMap_made _ _ _ _,fun _=>rfl,fun x=>by simp [Maps.has],fun x=>by simp [DataW.atKey]⟩
theorem zA.step {w:World} {B:Nat} {L:List (Nat × Nat)} (h:zA w B L) (x:Sl) (hl:L.length < 1000000) :
  ∃ (v0:Value) (st:Nat) (w1 w2:World),(Instr.mapEntry 136 (.map (some B)) (slV x.1)).run Try.prog w=.ok (.tuple #[v0,goInt st]) w1 ∧
   (Instr.lookup 136 (.map (some B)) (slV x.1) false).run Try.prog w1=.ok (.int .i64 (L.count x.1:Nat)) w1∧w.mapTurned w1 B ∧
   (Instr.entryStore 136 (.map (some B)) (goInt st) (.int .i64 ((L.count x.1:Nat)+1))).run Try.prog w1=.ok () w2∧zA w2 B (L ++ [x.1])∧w.mapTurned w2 B:=by
 have hlook:=h.look x;obtain ⟨D,hown,hs,hh,hat⟩:=h;have hD:=hown.isMap;have hT:=hown.tidy z2h;have hkl:=z2h.key (z38 x);have hcl:=L.count_le_length (a:=x.1);have hwf:(Lit.int .i64 ((L.count x.1:Nat)+1)).wf=true:=WalkArith.wf_i64 (by omega);obtain ⟨v0,st,w1,w2,e1,m1,l1,e2,o2,m2⟩:=z5w hown z2h Try.underlying136 (by unfold maxLen;omega) z5v (plainElem_int Try.underlying3 (a:=0) (by decide)) (z38 x) (plainElem_int Try.underlying3 hwf);refine ⟨v0,st,w1,w2,e1,l1 _ hlook,m1,e2,⟨_,by simpa using o2,?_,?_,?_⟩,m2⟩
 ·intro hn
  have hx:x.1 ∉ L:=by
   have:=(List.nodup_append.1 hn).2.2;intro hx;exact this _ hx _ (by simp) rfl
  have hab:Maps.has D (slK x.1)=false:=(by rw [hh x];simpa using hx);rw [Maps.size_put hT,hab,hs (List.nodup_append.1 hn).1];simp
 ·intro y;by_cases hy:y.1=x.1
  ·rw [hy,Maps.has_put_same hD hkl];simp
  ·rw [Maps.has_put_other (fun h=>hy (z4L h)),hh y];simp [hy]
 ·intro y;by_cases hy:y.1=x.1
  ·rw [hy,Maps.atKey_put_same hD hkl,List.count_append];simp
  ·rw [Maps.atKey_put_other (fun h=>hy (z4L h)),hat y,List.count_append];simp [Ne.symm hy]
end
section
open Go.RowKit Go.Shelf
attribute [local go_sem] Oper.semAt_some
theorem z4M {β:Type} (B:Nat) (f:β→Obj) (hf:∀ s,(f s).isCells=true):Own (fun s W=>W.heap[B]?=some (f s)):=fun s X Y row hs hg hrow =>
 (hg.block B (bL hs) (fun e'=>by obtain ⟨o,ho,hc⟩:=hrow B e'.symm;rw [hs] at ho;cases ho;rw [hf] at hc;cases hc)).trans hs
theorem z44 {β:Type} (B n:Nat):OwnFrom B (fun (_:β) W=>n≤W.heap.size):=fun _ _ _ _ hs hg _=>Nat.le_trans hs hg.size
theorem z2n {β:Type} (B:Nat) (t:TypeId) (v:Value):Own (fun (_:β) W=>Boxed W B t v):=boxed_own B t (fun _=>v)
def z1Y (L:List (Nat × Nat)) (r c rs cs:Nat):Bool:=(z01 r c cs rs).all fun x=>decide (x.1 ∉ L)
theorem z4A (r c rs cs:Nat) (i:Int) (hr:r+rs≤1000) (hc:c+cs≤1000) (w:World) (B:Nat) (L:List (Nat × Nat)) (hT:zA w B L) :
  Calls Try.prog 95 #[.map (some B),gcV r c rs cs i] w fun e w'=>e=.returned (.bool (z1Y L r c rs cs))∧Below w.heap.size w w':=by
 have hlt:=hT.lt;refine (callsIn_wide (n:=4)).1 ?_;unfold gcV;refine callsIn_of_wp_marks Try.func95 rfl trivial ?_ rfl;simp only [Try.ntmps95,List.size_toArray,List.length_cons,List.length_nil,Nat.reduceAdd,Nat.reduceSub,Array.replicate_succ,Array.replicate_zero,List.push_toArray,List.append_toArray,List.nil_append,List.cons_append]
 gi_wp2_with (refine ⟨trivial,?_⟩;gi_at_call 107;refine (callsIn_wide.2 (z2Q r c rs cs i _)).mono ?_;rintro e w' ⟨rfl,rfl⟩)
 obtain ⟨W0,hW0⟩:∃ W0,((((w.alloc (.cells #[.map (some B)] 136)).alloc (.cells #[.int .i64 r,.int .i64 c,.int .i64 rs,.int .i64 cs,.int .i64 i] 115)).alloc (.cells #[.bool false] 4)).alloc (z0W r c rs cs i))=W0:=⟨_,rfl⟩;have hsz:W0.heap.size=w.heap.size+4:=(by rw [← hW0];simp);have hB0:Below w.heap.size w W0:=(by rw [← hW0];exact zb (zb (zb (zb (Below.refl _ _) _) _) _) _)
 have hx0:Boxed W0 w.heap.size 136 (.map (some B)):=by
  rw [← hW0];exact (((Boxed.new w _ _).alloc _).alloc _).alloc _
 have hx2:Boxed W0 (w.heap.size+2) 4 (.bool false):=by
  have:=(Boxed.new ((w.alloc (.cells #[.map (some B)] 136)).alloc (.cells #[.int .i64 r,.int .i64 c,.int .i64 rs,.int .i64 cs,.int .i64 i] 115)) 4 (.bool false)).alloc (z0W r c rs cs i);rw [hW0] at this
  simpa using this
 have hx3:W0.heap[w.heap.size+3]?=some (z0W r c rs cs i):=by
  have:=World.alloc_heap_new (((w.alloc (.cells #[.map (some B)] 136)).alloc (.cells #[.int .i64 r,.int .i64 c,.int .i64 rs,.int .i64 cs,.int .i64 i] 115)).alloc (.cells #[.bool false] 4)) (z0W r c rs cs i);rw [hW0] at this
  simpa using this
 rw [hW0];clear hW0
 refine wpIn_rangeFunc_ownH rfl (by omega) (gf:=114) (lb:=#[.pointer (some ⟨w.heap.size+3,0,none⟩)]) rfl trivial (enters_of Try.func114 (by kernel_rfl) rfl)
  (z2P (w.heap.size+3) r c rs cs i hr hc W0 (by omega) hx3) (fun h k=>z2a.trans h k) (z5q (by omega)) (Below.refl _ _) (fun _=>rfl)
  (fun pre W=>(Boxed W w.heap.size 136 (.map (some B))∧Boxed W (w.heap.size+2) 4 (.bool false))∧Below w.heap.size w W∧w.heap.size+4≤W.heap.size∧∀ x ∈ pre,x.1 ∉ L)
  (fun c pre W=>c=.ret∧Boxed W (w.heap.size+2) 4 (.bool false)∧Below w.heap.size w W∧∃ x ∈ pre,x.1 ∈ L)
  (OwnFrom.and (OwnFrom.and (Own.from (z2n _ _ _) _) (Own.from (z2n _ _ _) _)) (OwnFrom.and (ownFrom_below (Nat.le_refl _) (by omega)) (OwnFrom.and (z44 _ _) (ownFrom_pure _ _))))
  (fun c=>OwnFrom.and (ownFrom_pure _ _) (OwnFrom.and (Own.from (z2n _ _ _) _) (OwnFrom.and (ownFrom_below (Nat.le_refl _) (by omega)) (ownFrom_pure _ _))))
  ⟨⟨hx0,hx2⟩,hB0,by omega,by simp⟩
  (fun x a' W=>∃ Bx,w.heap.size+4≤Bx∧W.heap[Bx]?=some (.cells #[.int .i64 x.1.1,.int .i64 x.1.2] 156) ∧
   a'={ tmps:=#[.map (some B),gcV r c rs cs i,.pointer (some ⟨w.heap.size,0,none⟩),.pointer (some ⟨w.heap.size+1,0,none⟩),.pointer (some ⟨w.heap.size+1+1,0,none⟩),.pointer (some ⟨Bx,0,none⟩),gcV r c rs cs i,.func (.func 114) #[] #[.pointer (some ⟨w.heap.size+1+1+1,0,none⟩)],slV x.1,undef,undef,undef,undef],defers:=[] })
  (fun x a' _ A B row hs hg hr=>by
   obtain ⟨Bx,h1,h2,h3⟩:=hs;exact ⟨Bx,h1,z4M Bx (fun _:Unit=>.cells #[.int .i64 x.1.1,.int .i64 x.1.2] 156) (fun _=>rfl) () A B row h2 hg (fun r e=>(hr r e).2),h3⟩)
  ?assign ?body ?done ?stop
 case assign =>
  rintro l pre x W K ⟨⟨hb1,hb2⟩,hB,hs4,hp⟩ hK;dsimp only [slV]
  gi_wp2
  refine hK _ _ ((KeepsOthers.alloc _ _).from _) ?_ ⟨⟨hb1.alloc _,hb2.alloc _⟩,zb hB _,by simp;omega,hp⟩ ⟨W.heap.size,hs4,World.alloc_heap_new _ _,rfl⟩;show (W.alloc _).heap[w.heap.size+3]?=_;exact Below.heap_alloc _ _ _ (by omega)
 case body =>
  rintro l pre x a' W hl ⟨r,hr⟩ ⟨⟨hb1,hb2⟩,hB,hs4,hp⟩ ⟨Bx,h1,h2,rfl⟩ _;have c1:=hb1.cell;have c2:=hb2.cell;have f2:=hb2.frozen;have d0:W.cell? ⟨Bx,0,none⟩=some (.int .i64 x.1.1):=(by simp [World.cell?,h2]);have d1:W.cell? ⟨Bx,1,none⟩=some (.int .i64 x.1.2):=(by simp [World.cell?,h2]);have hlook:=(hT.of_block (hB.block B hlt)).look x;unfold slV at hlook;by_cases hx:x.1 ∈ L
  ·obtain ⟨m,hm⟩:∃ m,L.count x.1=m+1:=⟨L.count x.1 - 1,by have:=List.count_pos_iff.2 hx;omega⟩;rw [hm] at hlook;clear hm
   gi_wp2
   exact ⟨(KeepsOthers.setCell _ _ _).from _,rfl,hb2.set _,hB.setCell (p:=⟨w.heap.size+1+1,0,none⟩) (by simp;omega) _,x,by simp,hx⟩
  ·rw [List.count_eq_zero.2 hx] at hlook
   gi_wp2
   exact ⟨(KeepsOthers.refl _).from _,rfl,⟨hb1,hb2⟩,hB,hs4,fun y hy=>by
    rcases List.mem_append.1 hy with h | h
    ·exact hp y h
    ·cases List.mem_singleton.1 h;exact hx⟩
 case done =>
  rintro D ys W hD rfl ⟨⟨hb1,hb2⟩,hB,hs4,hp⟩ hK;have c2:=hb2.cell;have f2:=hb2.frozen
  gi_wp2
  have hk2:=(KeepsOthers.setCell W ⟨w.heap.size+1+1,0,none⟩ (.bool true)).same D _ hK rfl;refine ⟨by simp,.inl ⟨_,_,rfl,run_takeDeferred hk2,?_⟩⟩;have hc5:=cell_kept (hb2.set (.bool true)).cell (grownBy_putObj' _ D (.deferred none)) (fun r e=>by cases e;exact ⟨_,hk2,rfl⟩);have hfr:z1Y L r c rs cs=true:=List.all_eq_true.2 (fun x hx=>decide_eq_true (hp x hx));refine ⟨.bool true,?_,by rw [hfr],(hB.setCell (p:=⟨w.heap.size+1+1,0,none⟩) (by simp;omega) _).trans (belowK_b (w:=w) (Nat.le_refl _) _ D _ _ (by omega) hk2 rfl rfl)⟩;simp [results,Try.f95,go_sem,hc5]
 case stop =>
  rintro D c pre W hD hpre ⟨rfl,hb2,hB,x,hx,hxL⟩ hK;have c2:=hb2.cell
  gi_wp2
  refine ⟨by simp,.inl ⟨_,_,rfl,run_takeDeferred hK,?_⟩⟩;have hc5:=cell_kept hb2.cell (grownBy_putObj' _ D (.deferred none)) (fun r e=>by cases e;exact ⟨_,hK,rfl⟩)
  have hfr:z1Y L r c rs cs=false:=by
   cases hf:z1Y L r c rs cs with
   | false=>rfl
   | true=>exact absurd hxL (of_decide_eq_true (List.all_eq_true.1 hf x (hpre.subset hx)))
  refine ⟨.bool false,?_,by rw [hfr],hB.trans (belowK_b (w:=w) (Nat.le_refl _) W D _ _ (by omega) hK rfl rfl)⟩;simp [results,Try.f95,go_sem,hc5]
end
end Go.Proofs.Ytggmjiddadjilam
