/-
  PROVED HERE: what the program's openPage.put does: slices of a piece come behind those of a page, lines of one row as one slice. Also: 5 more texts of the same proof.
-/
import Derived.Test.YtggmjiddadjilahGreatJ19
set_option maxRecDepth 1000000
set_option maxHeartbeats 40000000
open Go.Proofs.Tryz
namespace Go.Proofs.YtggmjiddadjilahGreat
open Value (int)
open IntKind (i64)
open Go.RowKit
structure BT (pb B:Nat) (w w':World):Prop where
 below:Below B w w'
 box:∀ k cur e,k ≠ pb->e ≠ 45->w.heap[k]?=some (.cells cur e)->w'.heap[k]?=some (.cells cur e)
theorem BT.refl (pb B:Nat) (w:World):BT pb B w w:=⟨bR,λ_ _ _ _ _ h=>h⟩
theorem BT.trans {pb B:Nat} {a b c:World} (h:BT pb B a b) (k:BT pb B b c):BT pb B a c:=⟨h.below.trans k.below,λq cur e h1 h2 h3=>k.box q cur e h1 h2 (h.box q cur e h1 h2 h3)⟩
theorem BT.of_below {pb B:Nat} {w w':World} (h:Below w.heap.size w w') (hB:B<=w.heap.size):BT pb B w w':=⟨h.mono hB,λk _ _ _ _ h3=>(h.block k (bL h3)).trans h3⟩
theorem z5H:∀ ps:List zk,(ps.flatMap z0y).length=ps.length * 3
 | []=>rfl
 | s :: ps=>by rw [List.flatMap_cons,List.length_append,z5H ps,List.length_cons];show 3+_=_;omega
theorem zx.last {w:World} {B g n cap:Nat} {pg:List zk} {l:zk} (h:zx w B (.slice (some ⟨g,0,none⟩) n cap) (pg ++ [l])) (x:Int):zx (w.setCell ⟨g,pg.length * 3+2,none⟩ (int i64 x)) B (.slice (some ⟨g,0,none⟩) n cap) (pg ++ [⟨l.r,l.f,x⟩]):=by
 have hn:=h.1
 rcases h.2 with ⟨hv,_⟩ | ⟨g',cap',cur,hv,hb,hg,h1,h2,h3,h4⟩
 ·simp at hv
 ·simp only [Value.slice.injEq,Option.some.injEq,Addr.mk.injEq,and_true] at hv;obtain ⟨rfl,rfl,rfl⟩:=hv
  have e:((pg ++ [l]).flatMap z0y).set (pg.length * 3+2) (int i64 x)=(pg ++ [(⟨l.r,l.f,x⟩:zk)]).flatMap z0y:=by
   rw [List.flatMap_append,List.flatMap_append,<-z5H pg,List.set_append_right _ _ (by omega)];simp [z0y]
  have el:(pg ++ [(⟨l.r,l.f,x⟩:zk)]).length=(pg ++ [l]).length:=(by simp);have hn2:=hn;rw [z5H] at hn2;refine ⟨by rw [z5H],.inr ⟨g,cap,cur.setIfInBounds (pg.length * 3+2) (int i64 x),by rw [el],hb,z0s hg _,by rw [el];exact h1,h2,by simpa using h3,?_⟩⟩;rw [el,Array.toList_setIfInBounds,List.take_set,h4,e]
def z6m (pg:List zk) (s:zk):Bool:=match pg.getLast? with
 | none=>false
 | some l=>decide (l.r=s.r)
theorem zjr {pg:List zk} {s:zk} (h:z6m pg s=false):z2o pg s=pg ++ [s]:=by
 refine z9j (λl hl=>?_);unfold z6m at h;rw [hl] at h
 simpa using h
theorem zih {pg:List zk} {s:zk} (h:z6m pg s=true):∃ p0 l,pg=p0 ++ [l]/\l.r=s.r/\z2o pg s=p0 ++ [⟨l.r,l.f,s.t⟩]:=by
 unfold z6m at h
 cases hl:pg.getLast? with
 | none=>rw [hl] at h;cases h
 | some l =>
  rw [hl] at h;have hr:l.r=s.r:=(by simpa using h);obtain ⟨ys,rfl⟩:=List.getLast?_eq_some_iff.1 hl;refine ⟨ys,l,rfl,hr,?_⟩;unfold z2o;rw [hl];simp only;rw [if_pos hr,List.dropLast_concat]
theorem zfc {p0:List zk} {l s:zk}:z6m (p0 ++ [l]) s=decide (l.r=s.r):=by simp [z6m]
theorem zgA (page piece:List zk) {k:Nat} (h:k < piece.length):z0b page (piece.take (k+1))=z2o (z0b page (piece.take k)) (piece.getD k dP):=by
 unfold z0b;rw [List.take_succ_eq_append_getElem h,List.foldl_append];simp [List.getD,h]
structure PF (w:World) (pb B:Nat) (room:Int) (au:Option Addr) (n cu:Nat) (pg:List zk) (sb:Nat) (s:zk) (W:World):Prop where
 box:W.heap[pb]?=some (.cells #[.slice au n cu,int i64 room] 110)
 own:zx W B (.slice au n cu) pg
 new:W.heap[sb]?=some (.cells #[int i64 s.r,int i64 s.f,int i64 s.t] 45)
 bt:BT pb B w W
 lt:pb < sb/\B<=sb/\∀ g,(Value.slice au n cu).ownBlock=some g->g < sb
theorem PF.kept {w:World} {pb B:Nat} {room:Int} {au:Option Addr} {n cu:Nat} {pg:List zk} {sb:Nat} {s:zk} {W W':World} (h:PF w pb B room au n cu pg sb s W) (k:Below W.heap.size W W'):PF w pb B room au n cu pg sb s W':=by
 have h1:=(bL h.new);have h2:=h.lt;exact ⟨(k.block _ (by omega)).trans h.box,h.own.kept k,(k.block _ h1).trans h.new,h.bt.trans (BT.of_below k (by omega)),h.lt⟩
theorem BT.drew {pb B:Nat} {w W:World} (h:BT pb B w W):BT pb B w W.drew:=⟨h.below.drew,h.box⟩
theorem zx.blk {w:World} {B g n cap:Nat} {ps:List zk} (h:zx w B (.slice (some ⟨g,0,none⟩) n cap) ps):B<=g/\∃ cur,w.heap[g]?=some (.cells cur 45):=by
 rcases h.2 with ⟨hv,_⟩ | ⟨g',cap',cur,hv,hb,hg,_⟩
 ·simp at hv
 ·simp only [Value.slice.injEq,Option.some.injEq,Addr.mk.injEq,and_true] at hv;obtain ⟨rfl,_,_⟩:=hv;exact ⟨hb,cur,hg⟩
theorem BT.set {pb B g:Nat} {w W:World} (h:BT pb B w W) (hB:B<=g) {cur:Array Value} (hg:W.heap[g]?=some (.cells cur 45)) (o:Nat) (x:Value):BT pb B w (W.setCell ⟨g,o,none⟩ x) :=
 ⟨h.below.setCell hB x,λk c e h1 h2 h3=>by
  have h4:=h.box k c e h1 h2 h3
  have hne:k ≠ g:=λe'=>by
   subst e';rw [hg] at h4;simp only [Option.some.injEq,Obj.cells.injEq] at h4;exact h2 h4.2.1.symm
  exact (bS hne).trans h4⟩
theorem PF.merge {w:World} {pb B g:Nat} {room:Int} {cu:Nat} {ps:List zk} {l:zk} {sb:Nat} {s:zk} {W:World} (h:PF w pb B room (some ⟨g,0,none⟩) (ps.length+1) cu (ps ++ [l]) sb s W) (x:Int) :
  (W.setCell ⟨g,ps.length * 3+2,none⟩ (int i64 x)).heap[pb]?=some (.cells #[.slice (some ⟨g,0,none⟩) (ps.length+1) cu,int i64 room] 110)/\zx (W.setCell ⟨g,ps.length * 3+2,none⟩ (int i64 x)) B (.slice (some ⟨g,0,none⟩) (ps.length+1) cu) (ps ++ [⟨l.r,l.f,x⟩])/\BT pb B w (W.setCell ⟨g,ps.length * 3+2,none⟩ (int i64 x)):=by
 obtain ⟨hB,cur,hg⟩:=h.own.blk;refine ⟨?_,h.own.last x,h.bt.set hB hg _ _⟩
 have hne:pb ≠ g:=λe'=>by
  subst e';have:=h.box;rw [hg] at this;simp only [Option.some.injEq,Obj.cells.injEq] at this;exact absurd this.2.1 (by decide)
 exact (bS hne).trans h.box
theorem zii {pb B:Nat} {w W W':World} {U:Value} {m:Nat} {xs:List Value} (h:BT pb B w W) (hU:W.ownsRow B 45 3 U m xs) (k:W.grownBy W' U.ownBlock) (hB:B<=W.heap.size:=by omega):BT pb B w W' :=
 ⟨h.below.grown k hB (λq hq=>(hU.lt q hq).1),λq cur e h1 h2 h3=>z06 (h.box q cur e h1 h2 h3) k (z0e (zt hU (h.box q cur e h1 h2 h3) (λe'=>h2 e'.symm)))⟩
theorem zjs {w:World} {B pb:Nat} {v:Value} {ps:List zk} {cur:Array Value} (h:zx w B v ps) (hb:w.heap[pb]?=some (.cells cur 110)) (o:Nat) (x:Value):zx (w.setCell ⟨pb,o,none⟩ x) B v ps :=
 ⟨h.1,h.2.elim Or.inl (λ⟨g,cap,c,hv,hg,hc,r⟩=>Or.inr ⟨g,cap,c,hv,hg,(bS (λe=>by
  have e':g=pb:=e;subst e';rw [hc] at hb;simp only [Option.some.injEq,Obj.cells.injEq] at hb;exact absurd hb.2.1 (by decide))).trans hc,r⟩)⟩
theorem zk8 {pb B:Nat} {w W:World} (h:BT pb B w W) (hB:B<=pb) (o:Nat) (x:Value):BT pb B w (W.setCell ⟨pb,o,none⟩ x) :=
 ⟨h.below.setCell hB x,λk c e h1 h2 h3=>(bS (by show k ≠ pb;exact h1)).trans (h.box k c e h1 h2 h3)⟩
structure PgJ (w:World) (pb B:Nat) (room:Int) (au:Option Addr) (n cu:Nat) (pg:List zk) (sb:Nat) (s:zk) (W3:World) (L:Nat->Bool) (W:World) (v43 v44 v45 v46 v47 v48 v49 v50 v51 v52:Value):Prop where
 f0:L 0=true->v43=.pointer (some ⟨pb,0,none⟩)
 f1:L 1=true->v44=.pointer (some ⟨pb,0,none⟩)
 f2:L 2=true->v45=.pointer (some ⟨pb,0,none⟩)
 f3:L 3=true->v46=.pointer (some ⟨pb,0,none⟩)
 f4:L 4=true->v47=.slice au n cu
 f5:L 5=true->v48=.agg #[int i64 s.r,int i64 s.f,int i64 s.t]
 f6:L 6=true->L 7=false->∃ g,v49=.slice (some ⟨g,0,none⟩) 1 1/\W.heap[g]?=some (.cells #[int i64 s.r,int i64 s.f,int i64 s.t] 45)
 f7:L 7=true->L 10=false->∃ a c,v50=.slice a (n+1) c/\W.heap[pb]?=some (.cells #[.slice au n cu,int i64 room] 110)/\zx W B (.slice a (n+1) c) (pg ++ [s])/\BT pb B w W
 f8:L 8=true->v51=.pointer (some ⟨pb,0,none⟩)
 f9:L 9=true->v52=.pointer (some ⟨pb,0,none⟩)
 f10:L 10=true->∃ a c,v50=.slice a (n+1) c/\W.heap[pb]?=some (.cells #[.slice a (n+1) c,int i64 room] 110)/\zx W B (.slice a (n+1) c) (pg ++ [s])/\BT pb B w W
 b:L 7=false->Below W3.heap.size W3 W
theorem zjt (pb B:Nat) (v vp:Value) (room:Int) (page piece:List zk) (hlp:page.length+piece.length<=100000) (w:World) (hB:B<=pb) {z:Nat} (hb:w.heap[pb]?=some (.cells #[v,int i64 room] 110)) (hv:zx w B v page) (hp:∀ W,Below B w W->z1Y W z vp piece) :
  Calls prog 73 #[.pointer (some ⟨pb,0,none⟩),vp] w λe w'=>(∃ u,e=.returned u)/\∃ v',w'.heap[pb]?=some (.cells #[v',int i64 room] 110)/\zx w' B v' (z0b page piece)/\BT pb B w w':=by
 have hmx:prog.follows .mixedOrders=true:=(by kernel_rfl);obtain ⟨i0,hi0,hz0,hz1,hz2⟩:=info_parts z7Z;obtain ⟨ap,cp,rfl,_⟩:=At.form (hp w bR);have HP:=O hp;have HV:=O hv;have HX:=O hb;clear hp hv hb;go_enter func73,ntmps73;go_wp2_with fail
 go_loopw [9] (λi W=>∃ (k:Nat) (u:Value),k<=piece.length/\i=int i64 (k:Int)/\Hid (W.heap[pb]?=some (.cells #[u,int i64 room] 110))/\Hid (zx W B u (z0b page (piece.take k)))/\Hid (BT pb B w W)/\(z0b page (piece.take k)).length<=page.length+k) (λi _=>piece.length - (intOf i).toNat)
 case atStart=>exact ⟨0,v,nZ,rfl,HX,HV,BT.refl _ _ _,lR⟩
 case round =>
  clear HX HV;obtain ⟨k,u,hk,rfl,HX,HV,HB,hln⟩:=hrel;by_cases hlt:k < piece.length
  case neg =>
   obtain rfl:k=piece.length:=by omega
   rw [List.take_length] at HV;go_wp2
   go_end0
   exact ⟨⟨_,rfl⟩,_,HX.out,HV.out,HB.out⟩
  obtain ⟨q,off,cap',e',hc1,hc2,hbl,hx⟩:=At.get (HP.out _ HB.out.below) hlt;simp only [Value.slice.injEq,true_and] at e';obtain ⟨rfl,rfl⟩:=e';unfold maxLen at hc2;obtain ⟨au,cu,rfl⟩:=HV.out.form;have HE:=O (zgA page piece hlt);generalize piece.getD k dP=s at hx HE;generalize z0b page (piece.take k)=pg at HV HE hln HX |-;obtain ⟨x0,x1,x2⟩:=hx;have hlx:=(bL HX.out);have hBw:B<=wr.heap.size:=(by omega);have KA:=ze (Below.refl wr.heap.size wr) (.cells #[int i64 s.r,int i64 s.f,int i64 s.t] 45);have PF1:Hid (PF w pb B room au pg.length cu pg wr.heap.size s (wr.alloc (.cells #[int i64 s.r,int i64 s.f,int i64 s.t] 45))):=O ⟨(KA.block _ hlx).trans HX.out,HV.out.kept KA,zj _ _,HB.out.trans (BT.of_below KA hBw),hlx,hBw,λg hg=>(z2d HV.out hg).2⟩;have HPl:=O hln;clear KA HV HB hln hBw
  cases hm:z6m pg s with
  | true =>
   obtain ⟨ps,l,hps,hlr,hput⟩:=zih hm;have hm1:pg.length=ps.length+1:=(by rw [hps];simp);have hpb:ps.length<=100000:=(by have:=HPl.out;omega);rw [hm1] at PF1 HX;rw [hps] at PF1;have HPt:=O (HE.out.trans hput);have HPs:=O hps;clear hm hput hps hm1 HE;obtain ⟨g,cg,eg⟩:=Joins.ownsRow_form PF1.out.own (by simp);simp only [Value.slice.injEq] at eg;obtain ⟨rfl,hgl,rfl⟩:=eg;clear hgl;obtain ⟨bq,oq,cq,eq',hq1,hq2,hq3,y0,y1,y2⟩:=At.get PF1.out.own.at (i:=ps.length) (by simp);simp only [Value.slice.injEq,Option.some.injEq,Addr.mk.injEq,and_true] at eq';obtain ⟨⟨rfl,rfl⟩,hgl,rfl⟩:=eq';clear hgl;have e1:(ps ++ [l]).getD ps.length dP=l:=(by simp [List.getD]);rw [e1,Nat.zero_add] at y0 y1 y2;unfold maxLen at hq2;have hsb:=PF1.out.lt.1
   have fz:∀ o,(wr.alloc (.cells #[int i64 s.r,int i64 s.f,int i64 s.t] 45)).frozen? ⟨g,o,none⟩=false:=by
    rcases PF1.out.own.2 with ⟨hv,_⟩ | ⟨g',cap',cur,hv,hb,hg,_⟩
    ·simp at hv
    ·simp only [Value.slice.injEq,Option.some.injEq,Addr.mk.injEq,and_true] at hv;obtain ⟨rfl,_,_⟩:=hv;exact λo=>zS hg
   have FZ:=O fz;have Y2:=O y2;have hE:(l.r == s.r)=true:=beq_iff_eq.2 hlr;have p0:wr.cell? ⟨pb,0,none⟩=some (.slice (some ⟨g,0,none⟩) (ps.length+1) cu):=zf HX.out;clear e1 fz y1 y2 hq1 hlr;have PF2:=PF1;have hl1:pb < (wr.alloc (.cells #[int i64 s.r,int i64 s.f,int i64 s.t] 45)).heap.size:=(by simp;omega);have hl2:wr.heap.size < (wr.alloc (.cells #[int i64 s.r,int i64 s.f,int i64 s.t] 45)).heap.size:=(by simp);have p1:(wr.alloc (.cells #[int i64 s.r,int i64 s.f,int i64 s.t] 45)).cell? ⟨pb,0,none⟩=some (.slice (some ⟨g,0,none⟩) (ps.length+1) cu):=zf PF1.out.box;have s0:(wr.alloc (.cells #[int i64 s.r,int i64 s.f,int i64 s.t] 45)).cell? ⟨wr.heap.size,0,none⟩=some (int i64 s.r):=zf PF1.out.new;have m0:=zm (a:=⟨pb,0,none⟩) hl1 p1;have m1:=zm (a:=⟨wr.heap.size,0,none⟩) hl2 s0;have m2:=zm (a:=⟨g,ps.length * 3,none⟩) hq3 y0;have hne:=z0H (wr.alloc (.cells #[int i64 s.r,int i64 s.f,int i64 s.t] 45));go_upto_region 4 with fail
   refine zv hmx (by kernel_rfl) ?_;repeat (go_big_quiet_step (fail))
   refine wpQuiet_nil ?_;intro W4 hw';obtain ⟨⟨Wx,hW4⟩,hw''⟩:=hw';subst hw'';have PF4:=O (PF2.out.kept hW4);have q0:=(hW4.frozen (p:=⟨g,ps.length * 3+2,none⟩) hq3).trans (FZ.out _);have q1:=(hW4.cell (p:=⟨g,ps.length * 3+2,none⟩) hq3).trans Y2.out;clear m0 m1 m2 hne hW4 p0 p1 s0 y0 FZ Y2 PF1 PF2 x0 x1 x2 hq3 hl1 hl2 HX hlx;have p0:W4.cell? ⟨pb,0,none⟩=some (.slice (some ⟨g,0,none⟩) (ps.length+1) cu):=zf PF4.out.box;have s2:W4.cell? ⟨wr.heap.size,2,none⟩=some (int i64 s.t):=zf PF4.out.new;go_upto_region 5 with fail
   go_region
   all_goals
    have HM:=O (PF4.out.merge s.t)
    have hl9:Hid ((z0b page (piece.take (k+1))).length<=page.length+(k+1)):=by
     show _<=_;rw [HPt.out];have h1:=HPl.out;rw [HPs.out] at h1;simp only [List.length_append,List.length_singleton] at h1 |-;omega
    go_wp2;go_roundw
    case rel=>exact ⟨k+1,_,by omega,by go_num,HM.out.1,by rw [HPt.out];exact HM.out.2.1,HM.out.2.2.drew,hl9.out⟩
    case measure=>simp [intOf];omega
  | false => 
   have hput:=zjr hm;have HPt:=O (HE.out.trans hput);clear hput HE
   rcases List.eq_nil_or_concat pg with he | he
   case' inl =>
    subst he;clear hm;simp only [List.length_nil] at PF1 HX;have HN:Hid (([]:List zk).length=0):=O rfl;have p0:wr.cell? ⟨pb,0,none⟩=some (.slice au 0 cu):=zf HX.out;have hl1:pb < (wr.alloc (.cells #[int i64 s.r,int i64 s.f,int i64 s.t] 45)).heap.size:=(by simp;omega);have hne:=z0H (wr.alloc (.cells #[int i64 s.r,int i64 s.f,int i64 s.t] 45));go_upto_region 4 with fail
    refine zv hmx (by kernel_rfl) ?_;repeat (go_big_quiet_step (fail))
    refine wpQuiet_nil ?_;intro W4 hw';obtain ⟨⟨Wx,hW4⟩,hw''⟩:=hw';subst hw'';have PF4:=O (PF1.out.kept hW4);clear hne hW4 p0 PF1 x0 x1 x2 HX hlx;go_upto_region 6 with fail
    have hls0:=PF4.out.lt;have hls:wr.heap.size < W4.heap.size:=(bL PF4.out.new);have hlb:pb < W4.heap.size:=(by omega);have HP0:Hid (W4.cell? ⟨pb,0,none⟩=some (.slice au 0 cu)):=O (zf PF4.out.box);have HS0:Hid (W4.cell? ⟨wr.heap.size,0,none⟩=some (int i64 s.r)/\W4.cell? ⟨wr.heap.size,1,none⟩=some (int i64 s.f)/\W4.cell? ⟨wr.heap.size,2,none⟩=some (int i64 s.t)):=O ⟨zf PF4.out.new,zf PF4.out.new,zf PF4.out.new⟩;have hBp:=hB;refine z0n (λL act W=>∃ v43 v44 v45 v46 v47 v48 v49 v50 v51 v52:Value,act=⟨#[.pointer (some ⟨pb,0,none⟩),.slice (some ⟨q,off,none⟩) piece.length cp,undef,undef,undef,.pointer (some ⟨wr.heap.size,0,none⟩),int i64 (-1),.slice (some ⟨q,off,none⟩) piece.length cp,int i64 piece.length,int i64 k,.bool true,.pointer (some ⟨q,off+k * 3,none⟩),.agg #[int i64 s.r,int i64 s.f,int i64 s.t],.pointer (some ⟨pb,0,none⟩),.pointer (some ⟨pb,0,none⟩),.pointer (some ⟨pb,0,none⟩),.slice au 0 cu,int i64 0,int i64 (-1),int i64 (-1),.bool false,.bool false,undef,undef,undef,undef,undef,undef,undef,undef,undef,undef,undef,.bool false,u34,u35,u36,u37,u38,u39,u40,u41,u42,v43,v44,v45,v46,v47,v48,v49,v50,v51,v52,u53],[]⟩/\PgJ w pb B room au 0 cu [] wr.heap.size s W4 L W v43 v44 v45 v46 v47 v48 v49 v50 v51 v52) hmx (by kernel_rfl) ?hs ?hd ?h0
    case h0=>exact e10 ⟨rfl,⟨n0,n0,n0,n0,n0,n0,n0,n0,n0,n0,n0,λ_=>z0X bR⟩⟩
    case hd =>
     intro L act W hJ hall;obtain ⟨v43,v44,v45,v46,v47,v48,v49,v50,v51,v52,ha,J⟩:=hJ;subst ha;obtain ⟨a9,c9,rfl,hbx,hO,hbt⟩:=J.f10 (hall 10 (by decide));have HX9:=O hbx
     have HO9:Hid (zx W B (.slice a9 (0+1) c9) (z0b page (piece.take (k+1)))):=by
      show zx _ _ _ _;rw [HPt.out];exact hO
     have hl9:Hid ((z0b page (piece.take (k+1))).length<=page.length+(k+1)):=by
      show _<=_;rw [HPt.out,List.length_append];have h1:=HPl.out;simp only [List.length_singleton];omega
     have HB9:=O hbt;clear J hall hbx hO hbt;go_wp2;go_roundw
     case rel=>exact ⟨k+1,_,by omega,by go_num,HX9,HO9,HB9,hl9.out⟩
     case measure=>simp [intOf];omega
   case' inr =>
    obtain ⟨ps,l,he⟩:=he;have hps:pg=ps ++ [l]:=(by rw [he,List.concat_eq_append]);clear he
    have hlr:¬ l.r=s.r:=by
     rw [hps,zfc] at hm
     simpa using hm
    have hm1:pg.length=ps.length+1:=(by rw [hps];simp);have hpb:ps.length<=100000:=(by have:=HPl.out;omega);rw [hm1] at PF1 HX;rw [hps] at PF1;have HPs:=O hps;clear hps hm1;obtain ⟨g,cg,eg⟩:=Joins.ownsRow_form PF1.out.own (by simp);simp only [Value.slice.injEq] at eg;obtain ⟨rfl,hgl,rfl⟩:=eg;clear hgl;obtain ⟨bq,oq,cq,eq',hq1,hq2,hq3,y0,y1,y2⟩:=At.get PF1.out.own.at (i:=ps.length) (by simp);simp only [Value.slice.injEq,Option.some.injEq,Addr.mk.injEq,and_true] at eq';obtain ⟨⟨rfl,rfl⟩,hgl,rfl⟩:=eq';clear hgl;have e1:(ps ++ [l]).getD ps.length dP=l:=(by simp [List.getD]);rw [e1,Nat.zero_add] at y0 y1 y2;unfold maxLen at hq2;have hsb:=PF1.out.lt.1;have hE:(l.r == s.r)=false:=beq_eq_false_iff_ne.2 hlr;have p0:wr.cell? ⟨pb,0,none⟩=some (.slice (some ⟨g,0,none⟩) (ps.length+1) cu):=zf HX.out;clear e1 y1 y2 hq1 hlr;have PF2:=PF1;have hl1:pb < (wr.alloc (.cells #[int i64 s.r,int i64 s.f,int i64 s.t] 45)).heap.size:=(by simp;omega);have hl2:wr.heap.size < (wr.alloc (.cells #[int i64 s.r,int i64 s.f,int i64 s.t] 45)).heap.size:=(by simp);have p1:(wr.alloc (.cells #[int i64 s.r,int i64 s.f,int i64 s.t] 45)).cell? ⟨pb,0,none⟩=some (.slice (some ⟨g,0,none⟩) (ps.length+1) cu):=zf PF1.out.box;have s0:(wr.alloc (.cells #[int i64 s.r,int i64 s.f,int i64 s.t] 45)).cell? ⟨wr.heap.size,0,none⟩=some (int i64 s.r):=zf PF1.out.new;have m0:=zm (a:=⟨pb,0,none⟩) hl1 p1;have m1:=zm (a:=⟨wr.heap.size,0,none⟩) hl2 s0;have m2:=zm (a:=⟨g,ps.length * 3,none⟩) hq3 y0;have hne:=z0H (wr.alloc (.cells #[int i64 s.r,int i64 s.f,int i64 s.t] 45));go_upto_region 4 with fail
    refine zv hmx (by kernel_rfl) ?_;repeat (go_big_quiet_step (fail))
    refine wpQuiet_nil ?_;intro W4 hw';obtain ⟨⟨Wx,hW4⟩,hw''⟩:=hw';subst hw'';have PF4:=O (PF2.out.kept hW4);have HN:Hid ((ps ++ [l]).length=ps.length+1):=O (by simp);rw [HPs.out] at HPt HPl;clear m0 m1 m2 hne hW4 p0 p1 s0 y0 PF1 PF2 x0 x1 x2 hq3 hl1 hl2 HX hlx;go_upto_region 6 with fail
    have hls0:=PF4.out.lt;have hls:wr.heap.size < W4.heap.size:=(bL PF4.out.new);have hlb:pb < W4.heap.size:=(by omega);have HP0:Hid (W4.cell? ⟨pb,0,none⟩=some (.slice (some ⟨g,0,none⟩) (ps.length+1) cu)):=O (zf PF4.out.box);have HS0:Hid (W4.cell? ⟨wr.heap.size,0,none⟩=some (int i64 s.r)/\W4.cell? ⟨wr.heap.size,1,none⟩=some (int i64 s.f)/\W4.cell? ⟨wr.heap.size,2,none⟩=some (int i64 s.t)):=O ⟨zf PF4.out.new,zf PF4.out.new,zf PF4.out.new⟩;have hBp:=hB;refine z0n (λL act W=>∃ v43 v44 v45 v46 v47 v48 v49 v50 v51 v52:Value,act=⟨#[.pointer (some ⟨pb,0,none⟩),.slice (some ⟨q,off,none⟩) piece.length cp,undef,undef,undef,.pointer (some ⟨wr.heap.size,0,none⟩),int i64 ps.length,.slice (some ⟨q,off,none⟩) piece.length cp,int i64 piece.length,int i64 k,.bool true,.pointer (some ⟨q,off+k * 3,none⟩),.agg #[int i64 s.r,int i64 s.f,int i64 s.t],.pointer (some ⟨pb,0,none⟩),.pointer (some ⟨pb,0,none⟩),.pointer (some ⟨pb,0,none⟩),.slice (some ⟨g,0,none⟩) (ps.length+1) cu,int i64 ((ps.length:Int)+1),int i64 ps.length,int i64 ps.length,.bool true,.bool true,.pointer (some ⟨pb,0,none⟩),.pointer (some ⟨pb,0,none⟩),.pointer (some ⟨pb,0,none⟩),.slice (some ⟨g,0,none⟩) (ps.length+1) cu,int i64 ps.length,.pointer (some ⟨g,ps.length * 3,none⟩),.pointer (some ⟨g,ps.length * 3,none⟩),int i64 l.r,.pointer (some ⟨wr.heap.size,0,none⟩),int i64 s.r,.bool false,.bool false,u34,u35,u36,u37,u38,u39,u40,u41,u42,v43,v44,v45,v46,v47,v48,v49,v50,v51,v52,u53],[]⟩/\PgJ w pb B room (some ⟨g,0,none⟩) (ps.length+1) cu (ps ++ [l]) wr.heap.size s W4 L W v43 v44 v45 v46 v47 v48 v49 v50 v51 v52) hmx (by kernel_rfl) ?hs ?hd ?h0
    case h0=>exact e10 ⟨rfl,⟨n0,n0,n0,n0,n0,n0,n0,n0,n0,n0,n0,λ_=>z0X bR⟩⟩
    case hd =>
     intro L act W hJ hall;obtain ⟨v43,v44,v45,v46,v47,v48,v49,v50,v51,v52,ha,J⟩:=hJ;subst ha;obtain ⟨a9,c9,rfl,hbx,hO,hbt⟩:=J.f10 (hall 10 (by decide));have HX9:=O hbx
     have HO9:Hid (zx W B (.slice a9 ((ps.length+1)+1) c9) (z0b page (piece.take (k+1)))):=by
      show zx _ _ _ _;rw [HPt.out];exact hO
     have hl9:Hid ((z0b page (piece.take (k+1))).length<=page.length+(k+1)):=by
      show _<=_;rw [HPt.out,List.length_append];have h1:=HPl.out;simp only [List.length_singleton];omega
     have HB9:=O hbt;clear J hall hbx hO hbt;go_wp2;go_roundw
     case rel=>exact ⟨k+1,_,by omega,by go_num,HX9,HO9,HB9,hl9.out⟩
     case measure=>simp [intOf];omega
   all_goals
    intro L act W i o hJ hcl ho hLi haft K hK;obtain ⟨v43,v44,v45,v46,v47,v48,v49,v50,v51,v52,ha,J⟩:=hJ;subst ha
    have hi':i < 11:=by
     have:=(bL ho)
     simpa using this
    rcases (by omega:i=0\/i=1\/i=2\/i=3\/i=4\/i=5\/i=6\/i=7\/i=8\/i=9\/i=10) with rfl | rfl | rfl | rfl | rfl | rfl | rfl | rfl | rfl | rfl | rfl
    all_goals
     simp only [List.getElem?_toArray,List.getElem?_cons_zero,List.getElem?_cons_succ,Option.some.injEq] at ho;subst ho;clear hi'
    ·go_simp;exact hK _ _ (e10 ⟨rfl,⟨λ_=>rfl,V J.f1,V J.f2,V J.f3,V J.f4,V J.f5,u2 J.f6,u2 J.f7,ug (Qh hcl 8 0 hLi),ug (Pl hcl 9 [8] hLi),ug (Pl hcl 10 [9,8] hLi),V J.b⟩⟩)
    ·have hN:=Pl hcl 7 [4,3,2] hLi;have hB:=J.b hN;go_simp;exact hK _ _ (e10 ⟨rfl,⟨V J.f0,λ_=>rfl,ug (Qh hcl 2 1 hLi),ug (Pl hcl 3 [2] hLi),ug (Pl hcl 4 [3,2] hLi),V J.f5,u2 J.f6,ug (Pl hcl 7 [4,3,2] hLi),V J.f8,V J.f9,ug (Pl hcl 10 [7,4,3,2] hLi),λ_=>hB⟩⟩)
    ·have hN:=Pl hcl 7 [4,3] hLi;have hB:=J.b hN;obtain rfl:=J.f1 (Fa haft 1);go_simp;exact hK _ _ (e10 ⟨rfl,⟨V J.f0,V J.f1,λ_=>rfl,ug (Qh hcl 3 2 hLi),ug (Pl hcl 4 [3] hLi),V J.f5,u2 J.f6,ug (Pl hcl 7 [4,3] hLi),V J.f8,V J.f9,ug (Pl hcl 10 [7,4,3] hLi),λ_=>hB⟩⟩)
    ·have hN:=Pl hcl 7 [4] hLi;have hB:=J.b hN;obtain rfl:=J.f2 (Fa haft 2);go_simp;exact hK _ _ (e10 ⟨rfl,⟨V J.f0,V J.f1,V J.f2,λ_=>rfl,ug (Qh hcl 4 3 hLi),V J.f5,u2 J.f6,ug (Pl hcl 7 [4] hLi),V J.f8,V J.f9,ug (Pl hcl 10 [7,4] hLi),λ_=>hB⟩⟩)
    ·have hN:=Qh hcl 7 4 hLi;have hB:=J.b hN;obtain rfl:=J.f3 (Fa haft 3);have q0:=(hB.cell (p:=⟨pb,0,none⟩) hlb).trans HP0.out;go_simp;exact hK _ _ (e10 ⟨rfl,⟨V J.f0,V J.f1,V J.f2,V J.f3,λ_=>rfl,V J.f5,u2 J.f6,ug (Qh hcl 7 4 hLi),V J.f8,V J.f9,ug (Pl hcl 10 [7] hLi),λ_=>hB⟩⟩)
    ·have hN:=Pl hcl 7 [6] hLi;have hB:=J.b hN;have q0:=(hB.cell (p:=⟨wr.heap.size,0,none⟩) hls).trans HS0.out.1;have q1:=(hB.cell (p:=⟨wr.heap.size,1,none⟩) hls).trans HS0.out.2.1;have q2:=(hB.cell (p:=⟨wr.heap.size,2,none⟩) hls).trans HS0.out.2.2;go_simp;exact hK _ _ (e10 ⟨rfl,⟨V J.f0,V J.f1,V J.f2,V J.f3,V J.f4,λ_=>rfl,ug (Qh hcl 6 5 hLi),ug (Pl hcl 7 [6] hLi),V J.f8,V J.f9,ug (Pl hcl 10 [7,6] hLi),λ_=>hB⟩⟩)
    ·have hN:=Qh hcl 7 6 hLi;have hB:=J.b hN;obtain rfl:=J.f5 (Fa haft 5);go_simp;exact hK _ _ (e10 ⟨rfl,⟨V J.f0,V J.f1,V J.f2,V J.f3,V J.f4,V J.f5,λ_ _=>⟨_,rfl,zj _ _⟩,ug (Qh hcl 7 6 hLi),V J.f8,V J.f9,ug (Pl hcl 10 [7] hLi),λ_=>ze hB _⟩⟩)
    ·have hN:=hLi;have hB:=J.b hN;obtain rfl:=J.f4 (Fa haft 4);obtain ⟨g,rfl,hg⟩:=J.f6 (Fa haft 6) hLi;have PFW:=PF4.out.kept hB;have hO:=PFW.own;unfold zx at hO;rw [HN.out] at hO;have hlt4:=PFW.lt;have hls2:=(bL PFW.new);rw [if_pos (by rfl)];refine wp_append_own _ (.tmp 47) (.tmp 49) 41 rfl B 45 i0 _ 3 24 underlying41 hi0 hz0 hz1 hz2 rfl (by decide) _ _ _ rfl hO ⟨g,0,none⟩ 1 1 (z0y s) rfl rfl (z0K hg) (by simp [z0y,Value.oneCell']) (by unfold maxLen;omega) (by omega) (by omega) ?_;intro v' w5 hown' hgrow' _;obtain ⟨a9,c9,rfl,_⟩:=zP hown';exact hK _ _ (e10 ⟨rfl,⟨V J.f0,V J.f1,V J.f2,V J.f3,V J.f4,V J.f5,λ_ h=>absurd (h.symm.trans zJ) (by simp),λ_ _=>⟨a9,c9,rfl,z06 PFW.box hgrow' (z0e (zt hO PFW.box (by decide))),zx.next (by rw [HN.out];exact hown'),zii PFW.bt hO hgrow'⟩,V J.f8,V J.f9,ug (Qh hcl 10 7 hLi),λh=>absurd (h.symm.trans zJ) (by simp)⟩⟩)
    ·obtain rfl:=J.f0 (Fa haft 0);go_simp;exact hK _ _ (e10 ⟨rfl,⟨V J.f0,V J.f1,V J.f2,V J.f3,V J.f4,V J.f5,u2 J.f6,u2 J.f7,λ_=>rfl,ug (Qh hcl 9 8 hLi),ug (Pl hcl 10 [9] hLi),V J.b⟩⟩)
    ·obtain rfl:=J.f8 (Fa haft 8);go_simp;exact hK _ _ (e10 ⟨rfl,⟨V J.f0,V J.f1,V J.f2,V J.f3,V J.f4,V J.f5,u2 J.f6,u2 J.f7,V J.f8,λ_=>rfl,ug (Qh hcl 10 9 hLi),V J.b⟩⟩)
    ·obtain rfl:=J.f9 (Fa haft 9);have h7:=(Fa haft 7);obtain ⟨a9,c9,rfl,hbx,hO,hbt⟩:=J.f7 h7 hLi;have q0:W.cell? ⟨pb,0,none⟩=_:=zf hbx;have f0:W.frozen? ⟨pb,0,none⟩=false:=zS hbx;go_simp;exact hK _ _ (e10 ⟨rfl,⟨V J.f0,V J.f1,V J.f2,V J.f3,V J.f4,V J.f5,λh h2=>absurd ((un h2).symm.trans h7) (by simp),λ_ h=>absurd (h.symm.trans zJ) (by simp),V J.f8,V J.f9,λ_=>⟨a9,c9,rfl,z0s hbx _,zjs hO hbx _ _,zk8 hbt hBp _ _⟩,λh=>absurd ((un h).symm.trans h7) (by simp)⟩⟩)
structure BF (bb B:Nat) (w w':World):Prop where
 os:w'.os=w.os
 tape:w'.tape=w.tape
 output:w'.output=w.output
 size:w.heap.size<=w'.heap.size
 block:∀ k,k < B->k ≠ bb->w'.heap[k]?=w.heap[k]?
theorem BF.of_below {bb B:Nat} {w w':World} (h:Below w.heap.size w w') (hB:B<=w.heap.size):BF bb B w w':=⟨h.os,h.tape,h.output,h.size,λk hk _=>h.block k (by omega)⟩
theorem BF.trans {bb B:Nat} {a b c:World} (h:BF bb B a b) (k:BF bb B b c):BF bb B a c:=⟨k.os.trans h.os,k.tape.trans h.tape,k.output.trans h.output,nT h.size k.size,λq h1 h2=>(k.block q h1 h2).trans (h.block q h1 h2)⟩
theorem zij {bb B:Nat} {w W W':World} {e:TypeId} {sz:Nat} {U:Value} {m:Nat} {xs:List Value} (h:BF bb B w W) (hU:W.ownsRow B e sz U m xs) (k:W.grownBy W' U.ownBlock) (hB:B<=W.heap.size):BF bb B w W' :=
 ⟨k.os.trans h.os,k.tape.trans h.tape,k.output.trans h.output,nT h.size k.size,λq h1 h2=>(k.block q (by omega) (λe=>by have:=(hU.lt q e.symm).1;omega)).trans (h.block q h1 h2)⟩
theorem zk9 {bb B:Nat} {w W:World} (h:BF bb B w W) (o:Nat) (x:Value):BF bb B w (W.setCell ⟨bb,o,none⟩ x) :=
 ⟨h.os,h.tape,h.output,by simpa [World.setCell] using h.size,λq h1 h2=>(bS (by show q ≠ bb;exact h2)).trans (h.block q h1 h2)⟩
theorem zcK {w w':World} {base:Nat} {e:TypeId} {sz:Nat} {v:Value} {m:Nat} {xs:List Value} (h:w.ownsRow base e sz v m xs) (hb:Below w.heap.size w w'):w'.ownsRow base e sz v m xs :=
 ⟨h.1,h.2.elim Or.inl (λ⟨g,cap,cur,hv,hg,hc,r⟩=>Or.inr ⟨g,cap,cur,hv,hg,(hb.block g (bL hc)).trans hc,r⟩)⟩
theorem z6n {w:World} {base pb:Nat} {e e':TypeId} {sz:Nat} {v:Value} {m:Nat} {xs:List Value} {cur:Array Value} (h:w.ownsRow base e sz v m xs) (hb:w.heap[pb]?=some (.cells cur e')) (he:e ≠ e') (o:Nat) (x:Value):(w.setCell ⟨pb,o,none⟩ x).ownsRow base e sz v m xs :=
 ⟨h.1,h.2.elim Or.inl (λ⟨g,cap,c,hv,hg,hc,r⟩=>Or.inr ⟨g,cap,c,hv,hg,(bS (λe2=>by
  have e3:g=pb:=e2;subst e3;rw [hc] at hb;simp only [Option.some.injEq,Obj.cells.injEq] at hb;exact he hb.2.1)).trans hc,r⟩)⟩
theorem zgB {w:World} {B pb:Nat} {us:List Value} {ls:List (List zk)} {e':TypeId} {cur:Array Value} (h:zO w B us ls) (hb:w.heap[pb]?=some (.cells cur e')) (he:45 ≠ e') (o:Nat) (x:Value):zO (w.setCell ⟨pb,o,none⟩ x) B us ls :=
 ⟨h.1,λi hi=>z6n (h.2 i hi) hb he o x⟩
theorem z7s {w:World} {k:Nat} {o x:Obj} (h:w.heap[k]?=some o):(w.alloc x).heap[k]?=some o:=(bA (bL h)).trans h
structure PfJ (w:World) (c0 c1 bb pb B:Nat) (av:Option Addr) (n cv:Nat) (vh:Value) (beside room:Int) (au:Option Addr) (m cu:Nat) (us:List Value) (pgs:List (List zk)) (page:List zk) (W3:World) (L:Nat->Bool) (W:World) (v2 v3 v4 v5 v6 v7 v8 v9 v10 v11 v12 v13 v14:Value):Prop where
 f0:L 0=true->v2=.pointer (some ⟨bb,0,none⟩)
 f1:L 1=true->v3=.pointer (some ⟨bb,0,none⟩)
 f2:L 2=true->v4=.pointer (some ⟨bb,0,none⟩)
 f3:L 3=true->v5=.pointer (some ⟨bb,0,none⟩)
 f4:L 4=true->v6=.slice av n cv
 f5:L 5=true->v7=.pointer (some ⟨pb,0,none⟩)
 f6:L 6=true->v8=.pointer (some ⟨pb,0,none⟩)
 f7:L 7=true->v9=.pointer (some ⟨pb,0,none⟩)
 f8:L 8=true->v10=.slice au m cu
 f9:L 9=true->L 10=false->∃ g,v11=.slice (some ⟨g,0,none⟩) 1 1/\W.heap[g]?=some (.cells #[.slice au m cu] 41)
 f10:L 10=true->L 13=false->∃ a c,v12=.slice a (n+1) c/\W.heap[bb]?=some (.cells #[.slice av n cv,vh,int i64 beside] 68)/\W.ownsRow B 41 1 (.slice a (n+1) c) (n+1) (us ++ [.slice au m cu])/\zO W B (us ++ [.slice au m cu]) (pgs ++ [page])/\BF bb B w W
 f11:L 11=true->v13=.pointer (some ⟨bb,0,none⟩)
 f12:L 12=true->v14=.pointer (some ⟨bb,0,none⟩)
 f13:L 13=true->∃ a c,v12=.slice a (n+1) c/\W.heap[bb]?=some (.cells #[.slice a (n+1) c,vh,int i64 beside] 68)/\W.ownsRow B 41 1 (.slice a (n+1) c) (n+1) (us ++ [.slice au m cu])/\zO W B (us ++ [.slice au m cu]) (pgs ++ [page])/\BF bb B w W
 b:L 10=false->Below W3.heap.size W3 W
 x0:W.heap[c0]?=some (.cells #[.pointer (some ⟨bb,0,none⟩)] 66)
theorem zgC (c0 c1 bb pb B:Nat) (av:Option Addr) (n cv:Nat) (vh:Value) (beside room:Int) (au:Option Addr) (m cu:Nat) (us:List Value) (pgs:List (List zk)) (page:List zk) (hn:n<=100000) (u:FrameMode) (w:World) (hBw:B<=w.heap.size)
  (h0:w.heap[c0]?=some (.cells #[.pointer (some ⟨bb,0,none⟩)] 66)) (h1:w.heap[c1]?=some (.cells #[.pointer (some ⟨pb,0,none⟩)] 108)) (hb:w.heap[bb]?=some (.cells #[.slice av n cv,vh,int i64 beside] 68)) (hp:w.heap[pb]?=some (.cells #[.slice au m cu,int i64 room] 110))
  (hO:w.ownsRow B 41 1 (.slice av n cv) n us) (hR:zO w B us pgs) (hV:zx w B (.slice au m cu) page) :
  CallsD prog 71 #[.pointer (some ⟨c0,0,none⟩),.pointer (some ⟨c1,0,none⟩)] u w λe u' w'=>u'=u/\(e=.returned (.tuple #[])/\∃ a c,w'.heap[bb]?=some (.cells #[.slice a (n+1) c,vh,int i64 beside] 68)/\w'.ownsRow B 41 1 (.slice a (n+1) c) (n+1) (us ++ [.slice au m cu])/\zO w' B (us ++ [.slice au m cu]) (pgs ++ [page])/\BF bb B w w'):=by
 have hmx:prog.follows .mixedOrders=true:=(by kernel_rfl);obtain ⟨i0,hi0,hz0,hz1,hz2⟩:=info_parts z5i;have hl1:=(bL h1);have hlb:=(bL hb);have hlp:=(bL hp);have HC1:Hid (w.cell? ⟨c1,0,none⟩=some (.pointer (some ⟨pb,0,none⟩))):=O (zf h1);have HB0:Hid (w.cell? ⟨bb,0,none⟩=some (.slice av n cv)):=O (zf hb);have HP0:Hid (w.cell? ⟨pb,0,none⟩=some (.slice au m cu)):=O (zf hp)
 have hne0:c0 ≠ bb:=λe=>by
  subst e;rw [h0] at hb;simp only [Option.some.injEq,Obj.cells.injEq] at hb;exact absurd hb.2.1 (by decide)
 have H0:=O h0;have HBx:=O hb;have HO:=O hO;have HR:=O hR;have HV:=O hV;clear h0 h1 hb hp hO hR hV
 go_enter_d func71,ntmps71
 refine z0n (λL act W=>∃ v2 v3 v4 v5 v6 v7 v8 v9 v10 v11 v12 v13 v14:Value,act=⟨#[.pointer (some ⟨c0,0,none⟩),.pointer (some ⟨c1,0,none⟩),v2,v3,v4,v5,v6,v7,v8,v9,v10,v11,v12,v13,v14],[]⟩/\PfJ w c0 c1 bb pb B av n cv vh beside room au m cu us pgs page w L W v2 v3 v4 v5 v6 v7 v8 v9 v10 v11 v12 v13 v14) hmx (by kernel_rfl) ?hs ?hd ?h0
 case h0=>exact e13 ⟨rfl,⟨n0,n0,n0,n0,n0,n0,n0,n0,n0,n0,n0,n0,n0,n0,λ_=>z0X bR,H0.out⟩⟩
 case hd =>
  intro L act W hJ hall;obtain ⟨v2,v3,v4,v5,v6,v7,v8,v9,v10,v11,v12,v13,v14,ha,J⟩:=hJ;subst ha;obtain ⟨a9,c9,rfl,hbx,hO,hR,hbf⟩:=J.f13 (hall 13 (by decide));have HA:=O (And.intro hbx (And.intro hO (And.intro hR hbf)));clear J hall hbx hO hR hbf;go_wp2
  go_end0
  exact ⟨rfl,a9,c9,HA.out.1,HA.out.2.1,HA.out.2.2.1,HA.out.2.2.2⟩
 case hs =>
  intro L act W i o hJ hcl ho hLi haft K hK;obtain ⟨v2,v3,v4,v5,v6,v7,v8,v9,v10,v11,v12,v13,v14,ha,J⟩:=hJ;subst ha
  have hi':i < 14:=by
   have:=(bL ho)
   simpa using this
  rcases (by omega:i=0\/i=1\/i=2\/i=3\/i=4\/i=5\/i=6\/i=7\/i=8\/i=9\/i=10\/i=11\/i=12\/i=13) with rfl | rfl | rfl | rfl | rfl | rfl | rfl | rfl | rfl | rfl | rfl | rfl | rfl | rfl
  all_goals
   simp only [List.getElem?_toArray,List.getElem?_cons_zero,List.getElem?_cons_succ,Option.some.injEq] at ho;subst ho;clear hi'
  ·have q0:W.cell? ⟨c0,0,none⟩=some (.pointer (some ⟨bb,0,none⟩)):=zf J.x0;go_simp;exact hK _ _ (e13 ⟨rfl,⟨λ_=>rfl,V J.f1,V J.f2,V J.f3,V J.f4,V J.f5,V J.f6,V J.f7,V J.f8,u2 J.f9,u2 J.f10,ug (Qh hcl 11 0 hLi),ug (Pl hcl 12 [11] hLi),ug (Pl hcl 13 [12,11] hLi),V J.b,J.x0⟩⟩)
  ·have hN:=Pl hcl 10 [4,3,2] hLi;have hB:=J.b hN;have q0:W.cell? ⟨c0,0,none⟩=some (.pointer (some ⟨bb,0,none⟩)):=zf J.x0;go_simp;exact hK _ _ (e13 ⟨rfl,⟨V J.f0,λ_=>rfl,ug (Qh hcl 2 1 hLi),ug (Pl hcl 3 [2] hLi),ug (Pl hcl 4 [3,2] hLi),V J.f5,V J.f6,V J.f7,V J.f8,u2 J.f9,ug (Pl hcl 10 [4,3,2] hLi),V J.f11,V J.f12,ug (Pl hcl 13 [10,4,3,2] hLi),λ_=>hB,J.x0⟩⟩)
  ·have hN:=Pl hcl 10 [4,3] hLi;have hB:=J.b hN;obtain rfl:=J.f1 (Fa haft 1);go_simp;exact hK _ _ (e13 ⟨rfl,⟨V J.f0,V J.f1,λ_=>rfl,ug (Qh hcl 3 2 hLi),ug (Pl hcl 4 [3] hLi),V J.f5,V J.f6,V J.f7,V J.f8,u2 J.f9,ug (Pl hcl 10 [4,3] hLi),V J.f11,V J.f12,ug (Pl hcl 13 [10,4,3] hLi),λ_=>hB,J.x0⟩⟩)
  ·have hN:=Pl hcl 10 [4] hLi;have hB:=J.b hN;obtain rfl:=J.f2 (Fa haft 2);go_simp;exact hK _ _ (e13 ⟨rfl,⟨V J.f0,V J.f1,V J.f2,λ_=>rfl,ug (Qh hcl 4 3 hLi),V J.f5,V J.f6,V J.f7,V J.f8,u2 J.f9,ug (Pl hcl 10 [4] hLi),V J.f11,V J.f12,ug (Pl hcl 13 [10,4] hLi),λ_=>hB,J.x0⟩⟩)
  ·have hN:=Qh hcl 10 4 hLi;have hB:=J.b hN;obtain rfl:=J.f3 (Fa haft 3);have q0:=(hB.cell (p:=⟨bb,0,none⟩) hlb).trans HB0.out;go_simp;exact hK _ _ (e13 ⟨rfl,⟨V J.f0,V J.f1,V J.f2,V J.f3,λ_=>rfl,V J.f5,V J.f6,V J.f7,V J.f8,u2 J.f9,ug (Qh hcl 10 4 hLi),V J.f11,V J.f12,ug (Pl hcl 13 [10] hLi),λ_=>hB,J.x0⟩⟩)
  ·have hN:=Pl hcl 10 [9,8,7,6] hLi;have hB:=J.b hN;have q0:=(hB.cell (p:=⟨c1,0,none⟩) hl1).trans HC1.out;go_simp;exact hK _ _ (e13 ⟨rfl,⟨V J.f0,V J.f1,V J.f2,V J.f3,V J.f4,λ_=>rfl,ug (Qh hcl 6 5 hLi),ug (Pl hcl 7 [6] hLi),ug (Pl hcl 8 [7,6] hLi),ug (Pl hcl 9 [8,7,6] hLi),ug (Pl hcl 10 [9,8,7,6] hLi),V J.f11,V J.f12,ug (Pl hcl 13 [10,9,8,7,6] hLi),λ_=>hB,J.x0⟩⟩)
  ·have hN:=Pl hcl 10 [9,8,7] hLi;have hB:=J.b hN;obtain rfl:=J.f5 (Fa haft 5);go_simp;exact hK _ _ (e13 ⟨rfl,⟨V J.f0,V J.f1,V J.f2,V J.f3,V J.f4,V J.f5,λ_=>rfl,ug (Qh hcl 7 6 hLi),ug (Pl hcl 8 [7] hLi),ug (Pl hcl 9 [8,7] hLi),ug (Pl hcl 10 [9,8,7] hLi),V J.f11,V J.f12,ug (Pl hcl 13 [10,9,8,7] hLi),λ_=>hB,J.x0⟩⟩)
  ·have hN:=Pl hcl 10 [9,8] hLi;have hB:=J.b hN;obtain rfl:=J.f6 (Fa haft 6);go_simp;exact hK _ _ (e13 ⟨rfl,⟨V J.f0,V J.f1,V J.f2,V J.f3,V J.f4,V J.f5,V J.f6,λ_=>rfl,ug (Qh hcl 8 7 hLi),ug (Pl hcl 9 [8] hLi),ug (Pl hcl 10 [9,8] hLi),V J.f11,V J.f12,ug (Pl hcl 13 [10,9,8] hLi),λ_=>hB,J.x0⟩⟩)
  ·have hN:=Pl hcl 10 [9] hLi;have hB:=J.b hN;obtain rfl:=J.f7 (Fa haft 7);have q0:=(hB.cell (p:=⟨pb,0,none⟩) hlp).trans HP0.out;go_simp;exact hK _ _ (e13 ⟨rfl,⟨V J.f0,V J.f1,V J.f2,V J.f3,V J.f4,V J.f5,V J.f6,V J.f7,λ_=>rfl,ug (Qh hcl 9 8 hLi),ug (Pl hcl 10 [9] hLi),V J.f11,V J.f12,ug (Pl hcl 13 [10,9] hLi),λ_=>hB,J.x0⟩⟩)
  ·have hN:=Qh hcl 10 9 hLi;have hB:=J.b hN;obtain rfl:=J.f8 (Fa haft 8);go_simp;exact hK _ _ (e13 ⟨rfl,⟨V J.f0,V J.f1,V J.f2,V J.f3,V J.f4,V J.f5,V J.f6,V J.f7,V J.f8,λ_ _=>⟨_,rfl,zj _ _⟩,ug (Qh hcl 10 9 hLi),V J.f11,V J.f12,ug (Pl hcl 13 [10] hLi),λ_=>ze hB _,z7s J.x0⟩⟩)
  ·have hN:=hLi;have hB:=J.b hN;obtain rfl:=J.f4 (Fa haft 4);obtain ⟨g,rfl,hg⟩:=J.f9 (Fa haft 9) hLi;have hO:=zcK HO.out hB;have hbx:=(hB.block bb hlb).trans HBx.out;have hsw:=hB.size;rw [if_pos (by rfl)];refine wp_append_own _ (.tmp 6) (.tmp 11) 30 rfl B 41 i0 _ 1 24 underlying30 hi0 hz0 hz1 hz2 rfl (by decide) _ _ _ rfl hO ⟨g,0,none⟩ 1 1 [.slice au m cu] rfl rfl (z0K hg) (by simp [Value.oneCell']) (by unfold maxLen;omega) (by omega) (by omega) ?_;intro v' w5 hown' hgrow' _;obtain ⟨a9,c9,rfl,_⟩:=zP hown';exact hK _ _ (e13 ⟨rfl,⟨V J.f0,V J.f1,V J.f2,V J.f3,V J.f4,V J.f5,V J.f6,V J.f7,V J.f8,λ_ h=>absurd (h.symm.trans zJ) (by simp),λ_ _=>⟨a9,c9,rfl,z06 hbx hgrow' (z0e (zt hO hbx (by decide))),hown',((HR.out.kept hB).grown hO hgrow').app (zO.one ((HV.out.kept hB).grown hO hgrow')),zij (BF.of_below hB hBw) hO hgrow' (by omega)⟩,V J.f11,V J.f12,ug (Qh hcl 13 10 hLi),λh=>absurd (h.symm.trans zJ) (by simp),z06 J.x0 hgrow' (z0e (zt hO J.x0 (by decide)))⟩⟩)
  ·obtain rfl:=J.f0 (Fa haft 0);go_simp;exact hK _ _ (e13 ⟨rfl,⟨V J.f0,V J.f1,V J.f2,V J.f3,V J.f4,V J.f5,V J.f6,V J.f7,V J.f8,u2 J.f9,u2 J.f10,λ_=>rfl,ug (Qh hcl 12 11 hLi),ug (Pl hcl 13 [12] hLi),V J.b,J.x0⟩⟩)
  ·obtain rfl:=J.f11 (Fa haft 11);go_simp;exact hK _ _ (e13 ⟨rfl,⟨V J.f0,V J.f1,V J.f2,V J.f3,V J.f4,V J.f5,V J.f6,V J.f7,V J.f8,u2 J.f9,u2 J.f10,V J.f11,λ_=>rfl,ug (Qh hcl 13 12 hLi),V J.b,J.x0⟩⟩)
  ·obtain rfl:=J.f12 (Fa haft 12);have h10:=(Fa haft 10);obtain ⟨a9,c9,rfl,hbx,hO,hR,hbf⟩:=J.f10 h10 hLi;have q0:W.cell? ⟨bb,0,none⟩=_:=zf hbx;have z0:W.frozen? ⟨bb,0,none⟩=false:=zS hbx;go_simp;exact hK _ _ (e13 ⟨rfl,⟨V J.f0,V J.f1,V J.f2,V J.f3,V J.f4,V J.f5,V J.f6,V J.f7,V J.f8,λh h2=>absurd ((un h2).symm.trans h10) (by simp),λ_ h=>absurd (h.symm.trans zJ) (by simp),V J.f11,V J.f12,λ_=>⟨a9,c9,rfl,z0s hbx _,z6n hO hbx (by decide) _ _,zgB hR hbx (by decide) _ _,zk9 hbf _ _⟩,λh=>absurd ((un h).symm.trans h10) (by simp),(bS (by show c0 ≠ bb;exact hne0)).trans J.x0⟩⟩)
def z1L (room:Int):List zk->List (List zk)->List zk × List (List zk)
 | page,[]=>(page,[])
 | page,p :: ps=>if z1a page p room then z1L room (z0b page p) ps else (page,p :: ps)
theorem zik (room:Int) (page:List zk):z1L room page []=(page,[]):=rfl
theorem z6D {room:Int} {page p:List zk} {ps:List (List zk)} (h:z1a page p room=true):z1L room page (p :: ps)=z1L room (z0b page p) ps:=by rw [z1L,if_pos h]
theorem z8d {room:Int} {page p:List zk} {ps:List (List zk)} (h:z1a page p room=false):z1L room page (p :: ps)=(page,p :: ps):=by rw [z1L,if_neg (by rw [h];simp)]
theorem zil {w:World} {z b off cap n:Nat} {pss:List (List zk)} (h:z1p w z (.slice (some ⟨b,off,none⟩) n cap) pss) {k:Nat} (hk:k<=pss.length):z1p w z (.slice (some ⟨b,off+k,none⟩) (n - k) (cap - k)) (pss.drop k):=by
 obtain ⟨a,cap',e,h1,h2,hx⟩:=h;simp only [Value.slice.injEq] at e;obtain ⟨rfl,rfl,rfl⟩:=e;have hl:(pss.drop k).length=pss.length - k:=List.length_drop;refine ⟨some ⟨b,off+k,none⟩,cap - k,by rw [hl],by omega,by omega,λi hi=>?_⟩;obtain ⟨b',off',ea,hb,hz,u,hu,hp⟩:=hx (k+i) (by omega);simp only [Option.some.injEq,Addr.mk.injEq,and_true] at ea;obtain ⟨rfl,rfl⟩:=ea;refine ⟨b,off+k,rfl,hb,hz,u,?_,?_⟩
 ·rw [Nat.mul_one] at hu |-;have:off+k+i=off+(k+i):=(by omega);rw [this];exact hu
 ·have e1:(pss.drop k).getD i []=pss.getD (k+i) []:=(by simp [List.getD]);rw [e1];exact hp
theorem zgD {pss:List (List zk)} {k:Nat} (h:k < pss.length):pss.drop k=pss.getD k [] :: pss.drop (k+1):=by
 rw [List.drop_eq_getElem_cons h];simp [List.getD,h]
theorem zgE {pss:List (List zk)} {k:Nat} (h:k < pss.length):(pss.take (k+1)).foldl z0b []=z0b ((pss.take k).foldl z0b []) (pss.getD k []):=by
 rw [List.take_succ_eq_append_getElem h,List.foldl_append];simp [List.getD,h]
structure FW (w:World) (c1 pb:Nat) (bb:Nat) (room:Int) (au:Option Addr) (m cu:Nat) (page:List zk) (W:World):Prop where
 below:Below w.heap.size w W
 b0:W.heap[w.heap.size]?=some (.cells #[.pointer (some ⟨bb,0,none⟩)] 66)
 b1:W.heap[c1]?=some (.cells #[.pointer (some ⟨pb,0,none⟩)] 108)
 bp:W.heap[pb]?=some (.cells #[.slice au m cu,int i64 room] 110)
 own:zx W w.heap.size (.slice au m cu) page
 lt:w.heap.size < pb
theorem FW.kept {w W W':World} {c1 pb bb:Nat} {room:Int} {au:Option Addr} {m cu:Nat} {page:List zk} (h:FW w c1 pb bb room au m cu page W) (k:Below W.heap.size W W'):FW w c1 pb bb room au m cu page W' :=
 ⟨zi h.below k,(k.block _ (bL h.b0)).trans h.b0,(k.block _ (bL h.b1)).trans h.b1,(k.block _ (bL h.bp)).trans h.bp,h.own.kept k,h.lt⟩
theorem FW.put {w W W':World} {c1 pb bb:Nat} {room:Int} {au au':Option Addr} {m cu m' cu':Nat} {page page':List zk} (h:FW w c1 pb bb room au m cu page W) (k:BT pb w.heap.size W W') (hb:W'.heap[pb]?=some (.cells #[.slice au' m' cu',int i64 room] 110)) (ho:zx W' w.heap.size (.slice au' m' cu') page'):FW w c1 pb bb room au' m' cu' page' W':=by
 have hlt:=h.lt;refine ⟨h.below.trans k.below,k.box _ _ _ (by omega) (by decide) h.b0,k.box _ _ _ ?_ (by decide) h.b1,hb,ho,hlt⟩;intro e;have h1:=h.b1;rw [e,h.bp] at h1;simp only [Option.some.injEq,Obj.cells.injEq] at h1;exact absurd h1.2.1 (by decide)
theorem zim {w:World} {bb B z:Nat} {vp:Value} {pieces:List (List zk)} (hp:∀ W,BF bb B w W->z1p W z vp pieces) (hB:B<=w.heap.size) {k:Nat} (hk:k < pieces.length) :
  ∃ b off cap u,vp=.slice (some ⟨b,off,none⟩) pieces.length cap/\pieces.length<=cap/\cap<=maxLen/\∀ W,Below w.heap.size w W->W.cell? ⟨b,off+k,none⟩=some u/\z1Y W z u (pieces.getD k []):=by
 obtain ⟨b,off,cap,u,e,h1,h2,h3,h4,_⟩:=(hp w (BF.of_below bR hB)).get hk;refine ⟨b,off,cap,u,e,h1,h2,λW hW=>?_⟩;obtain ⟨b',off',cap',u',e',_,_,_,h4',h5'⟩:=(hp W (BF.of_below hW hB)).get hk;rw [e] at e';simp only [Value.slice.injEq,Option.some.injEq,Addr.mk.injEq,and_true,true_and] at e';obtain ⟨⟨rfl,rfl⟩,rfl⟩:=e';have hc:=(hW.cell (p:=⟨b,off+k,none⟩) h3).trans h4;rw [hc] at h4'
 injection h4' with h4'
 subst h4';exact ⟨hc,h5'⟩
theorem zju (w:World) (z:Nat):z1p w z (.slice none 0 0) []:=⟨none,0,rfl,lR,by unfold maxLen;omega,λi hi=>absurd hi (Nat.not_lt_zero i)⟩
theorem zcL {w W:World} {c1 pb bb B:Nat} {room beside:Int} {au av:Option Addr} {m cu n cv:Nat} {vh:Value} {us:List Value} {pgs:List (List zk)} {page:List zk} (F:FW w c1 pb bb room au m cu page W) (hn2:n<=100000) (hB:B<=w.heap.size) (hlb:bb < w.heap.size)
  (hb:w.heap[bb]?=some (.cells #[.slice av n cv,vh,int i64 beside] 68)) (hO:w.ownsRow B 41 1 (.slice av n cv) n us) (hR:zO w B us pgs) :
  CallsD prog 71 #[.pointer (some ⟨w.heap.size,0,none⟩),.pointer (some ⟨c1,0,none⟩)] .returning W λe u' w'=>u'=.returning/\(e=.returned (.tuple #[])/\∃ a c us',w'.heap[bb]?=some (.cells #[.slice a (n+1) c,vh,int i64 beside] 68)/\w'.ownsRow B 41 1 (.slice a (n+1) c) (n+1) us'/\zO w' B us' (pgs ++ [page])/\BF bb B w w'):=by
 have hz:=F.below.size;refine (zgC w.heap.size c1 bb pb B av n cv vh beside room au m cu us pgs page hn2 .returning W (by omega) F.b0 F.b1 ((F.below.block _ hlb).trans hb) F.bp (zcK hO F.below) (hR.kept F.below) (F.own.base hB)).mono ?_;rintro e u' w' ⟨h1,h2,a,c,h3,h4,h5,h6⟩;exact ⟨h1,h2,a,c,_,h3,h4,h5,(BF.of_below F.below hB).trans h6⟩
theorem zcM (bb B z:Nat) (av:Option Addr) (n cv:Nat) (vh vp:Value) (high:List Int) (beside:Int) (us:List Value) (pgs pieces:List (List zk)) (hn:pgs.length=n) (hn2:n<=100000) (hpl:pieces.length<=100000)
  (hl:0 < high.length) (hl2:high.length<=60) (hh:∀ x ∈ high,0<=x/\x<=100) (hbs:0<=beside/\beside<=1000000)
  (hlow:∀ k,k<=pieces.length->z3t ((pieces.take k).foldl z0b [])/\((pieces.take k).foldl z0b []).length<=50000) (hlp:∀ p ∈ pieces,z3t p/\p.length<=50000)
  (w:World) (hBw:B<=w.heap.size) (hb:w.heap[bb]?=some (.cells #[.slice av n cv,vh,int i64 beside] 68)) (hv:∀ W,BF bb B w W->zA W vh high)
  (hO:w.ownsRow B 41 1 (.slice av n cv) n us) (hR:zO w B us pgs) (hp:∀ W,BF bb B w W->z1p W z vp pieces) :
  Calls prog 39 #[.pointer (some ⟨bb,0,none⟩),vp] w λe w'=>∃ vr us' a c,e=.returned vr/\(∀ W,BF bb B w' W->z1p W z vr (z1L (zN (high.map (· - beside)) n) [] pieces).2) /\
   w'.heap[bb]?=some (.cells #[.slice a (n+1) c,vh,int i64 beside] 68)/\w'.ownsRow B 41 1 (.slice a (n+1) c) (n+1) us'/\zO w' B us' (pgs ++ [(z1L (zN (high.map (· - beside)) n) [] pieces).1])/\BF bb B w w':=by
 have hmf:∀ (fn:Fn) (first cap:Array Value) (w:World),(Instr.makeFunc fn first cap).run prog w=.ok (.func fn first cap) w:=λ_ _ _ _=>rfl;have K0:=ze (Below.refl w.heap.size w) (.cells #[.pointer (some ⟨bb,0,none⟩)] 66);have hlb:=(bL hb);have KR:=O (zig bb n av cv vh high beside hl hl2 hn2 hh hbs _ ((K0.block _ hlb).trans hb) (hv _ (BF.of_below K0 hBw)));obtain ⟨room,hroom⟩:∃ room,zN (high.map (· - beside)) n=room:=⟨_,rfl⟩;rw [hroom] at KR |-;have X0:=zj w (.cells #[.pointer (some ⟨bb,0,none⟩)] 66);obtain ⟨ap,cp,rfl,_⟩:=At.form (hp w (BF.of_below bR hBw));have HP:=O hp;have HO:=O hO;have HR:=O hR;have HB:=O hb;clear hp hO hR hb hv hroom;have HK0:=O K0;have HX0:=O X0;clear K0 X0
 go_enter_defers func39,ntmps39
 go_wp2_with fail
 refine KR.out.mono ?_;rintro e w1 ⟨rfl,hb1⟩
 have F1:Hid (FW w (w1.heap.size+1) w1.heap.size bb room none 0 0 [] ((w1.alloc (.cells #[.slice none 0 0,int i64 room] 110)).alloc (.cells #[.pointer (some ⟨w1.heap.size,0,none⟩)] 108))):=by
  have hs0:w.heap.size < (w.alloc (.cells #[.pointer (some ⟨bb,0,none⟩)] 66)).heap.size:=(by simp);have hs1:=hb1.size;have x1:=(hb1.block _ hs0).trans HX0.out;have s1:(w1.alloc (.cells #[.slice none 0 0,int i64 room] 110)).heap.size=w1.heap.size+1:=(by simp);have n2:=zj (w1.alloc (.cells #[.slice none 0 0,int i64 room] 110)) (.cells #[.pointer (some ⟨w1.heap.size,0,none⟩)] 108);rw [s1] at n2;exact ⟨ze (ze (zi HK0.out hb1) _) _,z7s (z7s x1),n2,z7s (zj w1 _),zx.nil _ _,by omega⟩
 have HN:=O hn;clear hb1 KR HX0 HK0 hn;go_wp2_with fail
 obtain ⟨W2,hW2⟩:∃ W2,(w1.alloc (.cells #[.slice none 0 0,int i64 room] 110)).alloc (.cells #[.pointer (some ⟨w1.heap.size,0,none⟩)] 108)=W2:=⟨_,rfl⟩;rw [hW2] at F1 |-;clear hW2;generalize w1.heap.size=pb at F1 |-;go_loopw [15] (λi W=>∃ (k:Nat) (au:Option Addr) (cu:Nat),k<=pieces.length/\i=int i64 (k:Int)/\Hid (FW w (pb+1) pb bb room au ((pieces.take k).foldl z0b []).length cu ((pieces.take k).foldl z0b []) W)/\Hid (z1L room [] pieces=z1L room ((pieces.take k).foldl z0b []) (pieces.drop k))) (λi _=>pieces.length - (intOf i).toNat)
 case atStart=>exact ⟨0,none,0,nZ,rfl,F1,O rfl⟩
 case round =>
  clear F1;obtain ⟨k,au,cu,hk,rfl,F,HF⟩:=hrel;by_cases hlt:k < pieces.length
  case neg =>
   obtain rfl:k=pieces.length:=by omega
   rw [List.take_length,List.drop_length] at HF;rw [List.take_length] at F;go_wp2;refine leaves_cons (f:=71) (args:=#[.pointer (some ⟨w.heap.size,0,none⟩),.pointer (some ⟨pb+1,0,none⟩)]) (by simp) (by simp [go_sem]) ?_;refine (zcL F.out hn2 hBw hlb HB.out HO.out HR.out).mono ?_;rintro e u' w3 ⟨rfl,rfl,a,c,us',h3,h4,h5,h6⟩;have e9:=HF.out.trans (zik room _);exact ⟨_,results_tmp rfl _ _ _,_,us',a,c,rfl,λ_ _=>by rw [e9];exact zju _ _,h3,h4,by rw [e9];exact h5,h6⟩
  obtain ⟨b,off,cap',u,e',hc1,hc2,hX⟩:=zim HP.out hBw hlt;simp only [Value.slice.injEq,true_and] at e';obtain ⟨rfl,rfl⟩:=e';unfold maxLen at hc2;have HX:=O hX;obtain ⟨hu,hpu⟩:=hX wr F.out.below;obtain ⟨ap,cp,rfl,hlp2⟩:=At.form hpu;have hL1:=(hlow k hk).1;have hL2:=(hlow k hk).2;have hL3:=hlp (pieces.getD k []) (by simp [List.getD,hlt]);have KT:=O (zg3 pb (.slice au ((pieces.take k).foldl z0b []).length cu) _ room ((pieces.take k).foldl z0b []) (pieces.getD k []) hL1 hL3.1 wr F.out.bp F.out.own.at hpu);have HD:=O (zgD hlt);have HT:=O (zgE hlt);generalize (pieces.take k).foldl z0b []=page at F HF KT HT hL1 hL2;generalize pieces.getD k []=piece at HX KT HD HT hL3 hpu hlp2 hu;have c1:wr.cell? ⟨pb+1,0,none⟩=some (.pointer (some ⟨pb,0,none⟩)):=zf F.out.b1;clear hX
  cases htk:z1a page piece room with
  | false =>
   rw [htk] at KT;have HS:=O (HF.out.trans (by rw [HD.out,z8d htk]));clear htk;go_wp2_with fail
   refine KT.out.mono ?_;rintro e w2 ⟨rfl,hb2⟩;replace F:=O (F.out.kept hb2);clear c1 hu hb2 KT;go_wp2;refine leaves_cons (f:=71) (args:=#[.pointer (some ⟨w.heap.size,0,none⟩),.pointer (some ⟨pb+1,0,none⟩)]) (by simp) (by simp [go_sem]) ?_;refine (zcL F.out hn2 hBw hlb HB.out HO.out HR.out).mono ?_;rintro e u' w3 ⟨rfl,rfl,a,c,us',h3,h4,h5,h6⟩;have e9:=HS.out;exact ⟨_,results_tmp rfl _ _ _,_,us',a,c,rfl,λW' k9=>by rw [e9,<-HD.out];exact zil (HP.out W' (h6.trans k9)) hk,h3,h4,by rw [e9];exact h5,h6⟩
  | true =>
   rw [htk] at KT;have HS:=O (HF.out.trans (by rw [HD.out,z6D htk,<-HT.out]));clear htk HF HD;go_wp2_with fail
   refine KT.out.mono ?_;rintro e w2 ⟨rfl,hb2⟩;replace F:=O (F.out.kept hb2);have hL4:page.length+piece.length<=100000:=(by have:=hL3.2;omega);have KP:=O (zjt pb w.heap.size (.slice au page.length cu) (.slice ap piece.length cp) room page piece hL4 w2 (by have:=F.out.lt;omega) F.out.bp F.out.own (λW hW=>(HX.out W (F.out.below.trans hW)).2));clear c1 hb2 KT hL4;have c1:w2.cell? ⟨pb+1,0,none⟩=some (.pointer (some ⟨pb,0,none⟩)):=zf F.out.b1;go_wp2_with fail
   refine KP.out.mono ?_;rintro e w3 ⟨⟨u9,rfl⟩,v',hb3,ho3,ht3⟩;obtain ⟨a3,c3,rfl⟩:=ho3.form;have F3:=O (F.out.put ht3 hb3 ho3);rw [<-HT.out] at F3;clear hb3 ho3 ht3 KP c1 F hu;go_wp2;go_roundw
   case rel=>exact ⟨k+1,a3,c3,hlt,by go_num,F3,HS⟩
   case measure=>simp [intOf];omega
theorem zbo (rm:List Int):∀ (ps:List (List zk)) (pgs:List (List zk)) (page:List zk),ps.foldl (z00 rm) (pgs,page) =
  if (z1L (zN rm pgs.length) page ps).2=[] then (pgs,(z1L (zN rm pgs.length) page ps).1) else (z1L (zN rm pgs.length) page ps).2.foldl (z00 rm) (pgs ++ [(z1L (zN rm pgs.length) page ps).1],[])
 | [],pgs,page=>by simp [z1L]
 | p :: ps,pgs,page=>by
  cases h:z1a page p (zN rm pgs.length) with
  | true =>
   rw [z6D h,List.foldl_cons,z7Y h];exact zbo rm ps pgs (z0b page p)
  | false =>
   rw [z8d h,if_neg (by simp)];exact zbb h
def z5V (rm:List Int) (pgs left:List (List zk)):List (List zk):=if left=[] then pgs else (left.foldl (z00 rm) (pgs,[])).1 ++ [(left.foldl (z00 rm) (pgs,[])).2]
theorem zbp {rm:List Int} {pgs left:List (List zk)}:(left.foldl (z00 rm) (pgs,[])).1 ++ [(left.foldl (z00 rm) (pgs,[])).2]=z5V rm (pgs ++ [(z1L (zN rm pgs.length) [] left).1]) (z1L (zN rm pgs.length) [] left).2:=by
 rw [zbo,z5V]
 split
 ·rfl
 ·rfl
theorem zgF {rm:List Int} {pgs left:List (List zk)} (h:left ≠ []):z5V rm pgs left=z5V rm (pgs ++ [(z1L (zN rm pgs.length) [] left).1]) (z1L (zN rm pgs.length) [] left).2:=by
 rw [<-zbp,z5V,if_neg h]
theorem zin (rm:List Int) (pieces:List (List zk)):z3c rm pieces=z5V rm [(z1L (zN rm 0) [] pieces).1] (z1L (zN rm 0) [] pieces).2:=by
 have:=zbp (rm:=rm) (pgs:=[]) (left:=pieces);simp only [List.nil_append,List.length_nil] at this;rw [<-this];rfl
theorem zio (rm:List Int) (pgs:List (List zk)):z5V rm pgs []=pgs:=by rw [z5V,if_pos rfl]
theorem z8e (room:Int):∀ (ps:List (List zk)) (page:List zk),∃ j,j<=ps.length/\(z1L room page ps).2=ps.drop j/\(z1L room page ps).1=(ps.take j).foldl z0b page
 | [],page=>⟨0,lR,rfl,rfl⟩
 | p :: ps,page=>by
  cases h:z1a page p room with
  | true =>
   obtain ⟨j,h1,h2,h3⟩:=z8e room ps (z0b page p);rw [z6D h];exact ⟨j+1,by simp;omega,h2,h3⟩
  | false =>
   rw [z8d h];exact ⟨0,nZ,rfl,rfl⟩
theorem zgG {room:Int} {p:List zk} {ps:List (List zk)}:∃ j,0 < j/\j<=(p :: ps).length/\(z1L room [] (p :: ps)).2=(p :: ps).drop j:=by
 rw [z6D (page:=[]) rfl];obtain ⟨j,h1,h2,_⟩:=z8e room ps (z0b [] p);exact ⟨j+1,by omega,by simp;omega,h2⟩
abbrev z0O:=Nat × Nat × Int
def z1V (up:List Int) (h:Int) (c:z0O):Int:=if c.1+c.2.1=up.length+1 then max h (c.2.2 - (up.sum - zK up c.1)) else h
def zkb (up:List Int) (cs:List z0O):Int:=cs.foldl (z1V up) 0
def z0i (cs:List z0O):Nat->List Int
 | 0=>[]
 | k+1=>z0i cs k ++ [zkb (z0i cs k) cs]
theorem z0M (cs:List z0O):∀ k,(z0i cs k).length=k
 | 0=>rfl
 | k+1=>by rw [z0i,List.length_append,z0M cs k];rfl
theorem zjw (up:List Int) (h:Int) (c:z0O):h<=z1V up h c:=by
 unfold z1V
 split <;> omega
theorem zaO (up:List Int):∀ (cs:List z0O) (h:Int),h<=cs.foldl (z1V up) h
 | [],h=>Int.le_refl h
 | c :: cs,h=>Int.le_trans (zjw up h c) (zaO up cs _)
theorem zby (up:List Int):∀ (cs:List z0O) (h:Int),cs.foldl (z1V up) h=h\/∃ c ∈ cs,c.1+c.2.1=up.length+1/\cs.foldl (z1V up) h=c.2.2 - (up.sum - zK up c.1)
 | [],_=>.inl rfl
 | d :: cs,h=>by
  rw [List.foldl_cons]
  rcases zby up cs (z1V up h d) with h1 | ⟨c,hc,he,h1⟩
  ·rw [h1];by_cases he:d.1+d.2.1=up.length+1
   ·rcases Int.le_total h (d.2.2 - (up.sum - zK up d.1)) with h2 | h2
    ·refine .inr ⟨d,List.mem_cons_self ..,he,?_⟩;unfold z1V;rw [if_pos he];omega
    ·refine .inl ?_;unfold z1V;rw [if_pos he];omega
   ·refine .inl ?_;unfold z1V;rw [if_neg he]
  ·exact .inr ⟨c,List.mem_cons_of_mem _ hc,he,h1⟩
theorem zbz (up:List Int):∀ (cs:List z0O) (h:Int),(∀ c ∈ cs,up.length < c.1/\1<=c.2.1)->cs.foldl (z1V up) h=h
 | [],_,_=>rfl
 | d :: cs,h,hl=>by
  have h1:=hl d (List.mem_cons_self ..)
  have h2:z1V up h d=h:=by
   unfold z1V;rw [if_neg (by omega)]
  rw [List.foldl_cons,h2];exact zbz up cs h (λc hc=>hl c (List.mem_cons_of_mem _ hc))
theorem zcQ (up:List Int) {M:Int}:∀ (cs:List z0O) (h:Int),(∀ c ∈ cs,c.2.2 - (up.sum - zK up c.1)<=M)->h<=M->cs.foldl (z1V up) h<=M:=λcs h hl hh=>by
 rcases zby up cs h with h1 | ⟨c,hc,_,h1⟩
 ·rw [h1];exact hh
 ·rw [h1];exact hl c hc
theorem zjx (up:List Int) (cs:List z0O):0<=zkb up cs:=zaO up cs 0
theorem z5p (cs:List z0O):∀ n,∀ x ∈ z0i cs n,0<=x
 | 0,_,h=>by cases h
 | n+1,x,h=>by
  rcases List.mem_append.mp (by rw [z0i] at h;exact h) with h1 | h1
  ·exact z5p cs n x h1
  ·rw [List.mem_singleton.mp h1];exact zjx ..
theorem zcR:∀ {l:List Int},(∀ x ∈ l,0<=x)->0<=l.sum
 | [],_=>Int.le_refl 0
 | y :: l,h=>by
  rw [List.sum_cons];have h1:=h y (List.mem_cons_self ..);have h2:=zcR (l:=l) (λx hx=>h x (List.mem_cons_of_mem _ hx));omega
theorem zaP {l:List Int} (h:∀ x ∈ l,0<=x) (k:Nat):0<=l.sum - zK l k:=by
 have h1:l.sum=(l.take k).sum+(l.drop k).sum:=(by rw [<-List.sum_append,List.take_append_drop]);have h2:=zcR (l:=l.drop k) (λx hx=>h x (List.mem_of_mem_drop hx));rw [zK];omega
theorem z7u {M:Int} (hM:0<=M) (cs:List z0O) (hc:∀ c ∈ cs,c.2.2<=M):∀ n,∀ x ∈ z0i cs n,x<=M
 | 0,_,h=>by cases h
 | n+1,x,h=>by
  rcases List.mem_append.mp (by rw [z0i] at h;exact h) with h1 | h1
  ·exact z7u hM cs hc n x h1
  ·rw [List.mem_singleton.mp h1];refine zcQ _ cs 0 (λc h2=>?_) hM;have h3:=zaP (z5p cs n) c.1;have h4:=hc c h2;omega
theorem zir (h n s:Int):h+max 0 (n - (s+h))=max h (n - s):=by omega
def z1l (n:Nat):Array Value:=madeCells (Value.int .i64 0).cells (n * 1)
theorem z6F (n:Nat):(z1l n).size=n:=by rw [z1l,size_madeCells];omega
theorem zkL:(prog.info? 3).map (λi=>(i.zero,i.size,i.bytes))=some (some (Value.int .i64 0),1,8):=by kernel_rfl
theorem z5I (n:Nat) (hn:n<=1048576) (u:World):(Instr.makeSlice 27 (int i64 (n:Int)) (int i64 (n:Int))).run prog u=.ok (.slice (some ⟨u.heap.size,0,none⟩) n n) (u.alloc (.cells (z1l n) 3)):=by
 obtain ⟨i0,hi,hz0,hz1,hz2⟩:=info_parts zkL;have h:=run_make (P:=prog) u 27 3 i0 _ underlying27 hi hz0 .i64 .i64 (n:Int) (n:Int) (by omega) (Int.le_refl _) (by rw [hz2];omega) (by omega);rw [hz1,Int.toNat_natCast] at h;exact h
end Go.Proofs.YtggmjiddadjilahGreat
