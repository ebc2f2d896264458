/-
  PROVED HERE: the program's own iterator over the words of a text, for every loop that goes over it; nothing that was in memory is turned. Also: 1 more texts of the same proof.
-/
import Derived.Test.YtggmjiddadjilahGreatJ8
import Derived.Test.YtggmjiddadjilahGreatJ4
set_option maxRecDepth 1000000
set_option maxHeartbeats 40000000
open Go.Proofs.Tryz
namespace Go.Proofs.YtggmjiddadjilahGreat
open Value (int)
open IntKind (i64)
section
open Go.RowKit Go.Shelf
attribute [local go_sem] Oper.semAt_some
theorem zgW (l B:Nat) (s:ByteArray) (hs:s.size<=maxLen) (J Jx:List W30->World->Prop)
  (hY:∀ pre x W,J pre W->pre.length < (zZ s).length->YieldAt Fence.wide 2 prog l #[.string x.1] W λe W' =>
   (e=.returned (.bool true)/\J (pre ++ [x]) W'/\z4q B W W')\/(e=.returned (.bool false)/\Jx (pre ++ [x]) W'))
  (W:World) (hB:W.heap[B]?=some (.cells #[.string s] 9)) (h0:J [] W) :
  CallsIn Fence.wide 3 prog 152 #[.func (.yield l) #[] #[],.pointer (some ⟨B,0,none⟩)] W λe W'=>(∃ v,e=.returned v) /\
   ((∃ ys,ys=zZ s/\J ys W')\/(∃ pre,pre <+: zZ s/\Jx pre W')):=by
 have c0:W.cell? ⟨B,0,none⟩=some (.string s):=(by simp [World.cell?,hB]);refine callsIn_of_wp func152 rfl trivial ?_ rfl;simp only [ntmps152,List.size_toArray,List.length_cons,List.length_nil,Nat.reduceAdd,Nat.reduceSub,Array.replicate_succ,Array.replicate_zero,List.push_toArray,List.append_toArray,List.nil_append,List.cons_append]
 cases hok:z0u s with
 | false =>
  have hw0:zZ s=[]:=(by rw [zZ,if_neg (by rw [hok];simp)])
  gi_wp2_with (refine ⟨trivial,?_⟩;gi_at_call 37;refine (callsIn_wide.2 (z2p s _ hs)).mono ?_;rintro e w' ⟨rfl,rfl⟩;rw [hok])
  refine bodyPost_ret (results_none rfl _ _ _) rfl ?_;exact ⟨⟨_,rfl⟩,.inl ⟨[],hw0.symm,h0⟩⟩
 | true =>
  have h30:s.size<=30:=((z2B s).1 hok).1;have hw0:zZ s=(z0v s 0).map toW:=(by rw [zZ,if_pos hok]);have HT:Hid (z6J s 0):=z7B hok
  gi_wp2_with (refine ⟨trivial,?_⟩;gi_at_call 37;refine (callsIn_wide.2 (z2p s _ hs)).mono ?_;rintro e w' ⟨rfl,rfl⟩;rw [hok])
  gi_loopw [3] (λi wr=>∃ (k:Nat) (pre:List W30),i=int i64 k/\Hid (z6J s k)/\Hid (zZ s=pre ++ (z0v s k).map toW)/\wr.heap[B]?=some (.cells #[.string s] 9)/\J pre wr) (λi _=>s.size+1 - (intOf i).toNat)
  case atStart=>exact ⟨0,[],rfl,HT,by rw [List.nil_append];exact hw0,hB,h0⟩
  case round =>
   obtain ⟨k,pre,rfl,HS,HW,hBr,hJ⟩:=hrel;have cr:wr.cell? ⟨B,0,none⟩=some (.string s):=(by simp [World.cell?,hBr]);by_cases hlt:k < s.size
   ·obtain ⟨h1,h2,h3,h4⟩:=z7C hok hlt HS.out;have HN:=O h3;have HG:Hid (z0v s k=s.extract k (z0Y s k) :: z0v s (z0Y s k+1)):=z43 hlt
    have HP:Hid (zZ s=(pre ++ [⟨s.extract k (z0Y s k),h4⟩]) ++ (z0v s (z0Y s k+1)).map toW):=by
     show zZ s=_;rw [HW.out,HG.out,List.map_cons,zgU h4];simp
    have hlen:pre.length < (zZ s).length:=(by rw [HP.out];simp);obtain ⟨fn,tmps,assign,body,hy,hR⟩:=hY pre ⟨s.extract k (z0Y s k),h4⟩ wr hJ hlen;dsimp only at hy;have HE:=ze0 s k (by omega) h30 wr;generalize z0Y s k=m at *;clear h3
    gi_wp2_with (refine ⟨trivial,?_⟩;gi_at_call 153;refine (callsIn_wide.2 HE).mono ?_;rintro e w' ⟨rfl,rfl⟩)
    refine hR.mono ?_;rintro e W3 (⟨rfl,hJ3,hk3⟩ | ⟨rfl,hJx3⟩)
    ·have hB3:=Eq.trans hk3 hBr
     gi_wp2
     go_roundw
     case rel=>exact ⟨m+1,_,by go_num,HN,HP,hB3,hJ3⟩
     case measure=>simp [intOf];omega
    ·gi_wp2
     refine bodyPost_ret (results_none rfl _ _ _) rfl ?_;exact ⟨⟨_,rfl⟩,.inr ⟨_,⟨_,HP.out.symm⟩,hJx3⟩⟩
   ·have HZ:Hid (z0v s k=[]):=z3B hlt
    gi_wp2
    go_end0
    exact ⟨⟨_,rfl⟩,.inl ⟨pre,by rw [HW.out,HZ.out];simp,hJ⟩⟩
theorem z99 (B:Nat) (s:ByteArray) (hs:s.size<=maxLen) (w:World) (hBn:B < w.heap.size) (hc:w.heap[B]?=some (.cells #[.string s] 9)) :
  SeqStopsK Fence.wide 3 prog 152 #[.pointer (some ⟨B,0,none⟩)] (λx:W30=>#[Value.string x.1]) (z4q B) (λys=>ys=zZ s) (λpre=>pre <+: zZ s) (zZ s).length w:=λl J Jx W hW _ _ hY h0 =>
 zgW l B s hs J Jx hY W ((hW.block B hBn).trans hc) h0
end
section
open Go.RowKit Go.Shelf
attribute [local go_sem] Oper.semAt_some
def z0E (ws:List W30):Nat:=ws.foldl (λn x=>max n x.1.size) 0
theorem z8o (ws:List W30) (x:W30):z0E (ws ++ [x])=max (z0E ws) x.1.size:=by simp [z0E]
theorem z58 (ws:List W30):z0E ws<=30:=by
 have:∀ (l:List W30) (n:Nat),n<=30->l.foldl (λn x=>max n x.1.size) n<=30:=by
  intro l
  induction l with
  | nil=>intro n h;exact h
  | cons x r ih=>intro n h;exact ih _ (Nat.max_le.2 ⟨h,x.2.2⟩)
 exact this ws 0 (by omega)
theorem zdb (s:ByteArray) (hs:s.size<=maxLen) (w:World) :
  Calls prog 144 #[.string s] w λe w'=>e=.returned (int i64 (z0E (zZ s)))/\Below w.heap.size w w':=by
 refine (callsIn_wide (n:=4)).1 ?_;refine callsIn_of_wp_marks func144 rfl trivial ?_ rfl;simp only [ntmps144,List.size_toArray,List.length_cons,List.length_nil,Nat.reduceAdd,Nat.reduceSub,Array.replicate_succ,Array.replicate_zero,List.push_toArray,List.append_toArray,List.nil_append,List.cons_append]
 gi_wp2_with (refine ⟨trivial,?_⟩;gi_at_call 127;refine (callsIn_wide.2 (z98 s _)).mono ?_;rintro e w' ⟨rfl,rfl⟩)
 have hs0:=zeZ w (int i64 0) 3;have hB0:Below w.heap.size w ((w.alloc (.cells #[int i64 0] 3)).alloc (.cells #[.string s] 9)):=ze (ze bR _) _
 have hbx:((w.alloc (.cells #[int i64 0] 3)).alloc (.cells #[.string s] 9)).heap[w.heap.size+1]?=some (.cells #[.string s] 9):=by
  have:=World.alloc_heap_new (w.alloc (.cells #[int i64 0] 3)) (.cells #[.string s] 9)
  rwa [World.size_alloc] at this
 refine wpIn_rangeFunc_ownF rfl (by omega) (gf:=152) (lb:=#[.pointer (some ⟨w.heap.size+1,0,none⟩)]) rfl trivial (enters_of func152 (by kernel_rfl) rfl)
  (z99 (w.heap.size+1) s hs _ (by simp) hbx) (λh k=>z4q.trans h k) (z9N (by simp)) bR (λ_=>rfl)
  (λpre W=>(W.cell? ⟨w.heap.size,0,none⟩=some (int i64 (z0E pre))/\W.frozen? ⟨w.heap.size,0,none⟩=false)/\Below w.heap.size w W)
  (λ_ _ _=>False)
  (OwnFrom.and (Own.from (λs A B row hs hg hr=>⟨cell_kept hs.1 hg hr,(frozen_kept hs.1 hg hr).trans hs.2⟩) _) (ownFrom_below lR (by simp;omega)))
  (λ_ _ _ _ _ hs _ _=>hs)
  ⟨⟨z3P _ hs0.1,zaJ _ hs0.1 hs0.2⟩,hB0⟩
  (λx=>{ tmps:=#[.string s,undef,int i64 0,.pointer (some ⟨w.heap.size,0,none⟩),.string x.1,.string s,.func (.func 152) #[] #[.pointer (some ⟨w.heap.size+1,0,none⟩)],.string x.1,undef,undef,undef,undef,undef],defers:=[] }) ?assign ?body ?done ?stop
 case assign =>
  intro l x W K hK
  gi_wp2
  exact hK
 case body =>
  rintro l pre x W ⟨⟨hc,hf⟩,hB⟩ _;have hx:=x.2;have hl:=z58 pre;have hbn:(W.setCell ⟨w.heap.size,0,none⟩ (int i64 (z0E (pre ++ [x])))).heap[w.heap.size+1]?=W.heap[w.heap.size+1]?:=bS (by simp)
  have HO:=O (show KeepsOthers W (W.setCell ⟨w.heap.size,0,none⟩ (int i64 (z0E (pre ++ [x]))))/\z4q (w.heap.size+1) W (W.setCell ⟨w.heap.size,0,none⟩ (int i64 (z0E (pre ++ [x])))) /\
   (((W.setCell ⟨w.heap.size,0,none⟩ (int i64 (z0E (pre ++ [x])))).cell? ⟨w.heap.size,0,none⟩=some (int i64 (z0E (pre ++ [x])))/\(W.setCell ⟨w.heap.size,0,none⟩ (int i64 (z0E (pre ++ [x])))).frozen? ⟨w.heap.size,0,none⟩=false) /\
   Below w.heap.size w (W.setCell ⟨w.heap.size,0,none⟩ (int i64 (z0E (pre ++ [x]))))) from ⟨KeepsOthers.setCell _ _ _,hbn,⟨World.cell?_setCell_same' _ _ _ (by rw [hc];rfl),by rw [World.frozen?_setCell];exact hf⟩,hB.setCell (p:=⟨w.heap.size,0,none⟩) lR _⟩)
  have HM:=O (z8o pre x);clear hbn
  gi_wp2
  ·rename_i hlt
   have e:z0E (pre ++ [x])=x.1.size:=(by rw [HM.out];omega);have h:=HO.out;rw [e] at h;exact ⟨h.1,h.2.1,by rw [e];exact h.2.2.1,h.2.2.2⟩
  ·rename_i hlt
   have e:z0E (pre ++ [x])=z0E pre:=(by rw [HM.out];omega);have h:=HO.out;rw [e] at h;exact ⟨h.1,h.2.1,by rw [e];exact h.2.2.1,h.2.2.2⟩
 case done =>
  rintro D ys W hD rfl ⟨⟨hc,_⟩,hB⟩ hK
  gi_wp2
  refine ⟨by simp,.inl ⟨_,_,rfl,run_takeDeferred hK,?_⟩⟩;exact ⟨_,results_tmp rfl _ _ _,rfl,hB.trans (belowK_b (w:=w) lR W D _ _ (by simp at hD;omega) hK rfl rfl)⟩
 case stop =>
  rintro D c pre W _ _ h _;exact h.elim
end
end Go.Proofs.YtggmjiddadjilahGreat
