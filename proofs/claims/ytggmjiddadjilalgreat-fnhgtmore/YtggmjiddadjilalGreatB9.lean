/-
  PROVED HERE: the program's own iterator over the words of a text, for every loop that goes over it; nothing that was in memory is turned. Also: 1 more texts of the same proof.
-/
import Derived.Test.YtggmjiddadjilalGreatB8
import Derived.Test.YtggmjiddadjilalGreatB4
set_option maxRecDepth 1000000
set_option maxHeartbeats 40000000
namespace Go.Proofs.YtggmjiddadjilalGreat
open Value (int)
open IntKind (i64)
section
open Go.RowKit Go.Shelf
attribute [local go_sem] Oper.semAt_some
theorem zcH (l B:Nat) (s:ByteArray) (hs:s.size<=maxLen) (J Jx:List W30->World->Prop)
  (hY:∀ pre x W,J pre W->pre.length < (zV s).length->YieldAt Fence.wide 2 Tryz.prog l #[.string x.1] W fun e W' =>
   (e=.returned (.bool true)/\J (pre ++ [x]) W'/\z2X B W W')\/(e=.returned (.bool false)/\Jx (pre ++ [x]) W'))
  (W:World) (hB:W.heap[B]?=some (.cells #[.string s] 9)) (h0:J [] W) :
  CallsIn Fence.wide 3 Tryz.prog 79 #[.func (.yield l) #[] #[],.pointer (some ⟨B,0,none⟩)] W fun e W'=>(∃ v,e=.returned v) /\
   ((∃ ys,ys=zV s/\J ys W')\/(∃ pre,pre <+: zV s/\Jx pre W')):=by
 have c0:W.cell? ⟨B,0,none⟩=some (.string s):=(by simp [World.cell?,hB]);refine callsIn_of_wp Tryz.func79 rfl trivial ?_ rfl;simp only [Tryz.ntmps79,List.size_toArray,List.length_cons,List.length_nil,Nat.reduceAdd,Nat.reduceSub,Array.replicate_succ,Array.replicate_zero,List.push_toArray,List.append_toArray,List.nil_append,List.cons_append]
 cases hok:zC s with
 | false =>
  have hw0:zV s=[]:=(by rw [zV,if_neg (by rw [hok];simp)])
  gi_wp2_with (refine ⟨trivial,?_⟩;gi_at_call 26;refine (callsIn_wide.2 (z1f s _ hs)).mono ?_;rintro e w' ⟨rfl,rfl⟩;rw [hok])
  refine bodyPost_ret (results_none rfl _ _ _) rfl ?_;exact ⟨⟨_,rfl⟩,.inl ⟨[],hw0.symm,h0⟩⟩
 | true =>
  have h30:s.size<=30:=((z1u s).1 hok).1;have hw0:zV s=(z0n s 0).map toW:=(by rw [zV,if_pos hok]);have HT:Hid (z5y s 0):=z4j hok
  gi_wp2_with (refine ⟨trivial,?_⟩;gi_at_call 26;refine (callsIn_wide.2 (z1f s _ hs)).mono ?_;rintro e w' ⟨rfl,rfl⟩;rw [hok])
  gi_loopw [3] (fun i wr=>∃ (k:Nat) (pre:List W30),i=int i64 k/\Hid (z5y s k)/\Hid (zV s=pre ++ (z0n s k).map toW)/\wr.heap[B]?=some (.cells #[.string s] 9)/\J pre wr) (fun i _=>s.size+1 - (intOf i).toNat)
  case atStart=>exact ⟨0,[],rfl,HT,by rw [List.nil_append];exact hw0,hB,h0⟩
  case round =>
   obtain ⟨k,pre,rfl,HS,HW,hBr,hJ⟩:=hrel;have cr:wr.cell? ⟨B,0,none⟩=some (.string s):=(by simp [World.cell?,hBr]);by_cases hlt:k < s.size
   ·obtain ⟨h1,h2,h3,h4⟩:=z4k hok hlt HS.out;have HN:=Hd h3;have HG:Hid (z0n s k=s.extract k (z0i s k) :: z0n s (z0i s k+1)):=z1W hlt
    have HP:Hid (zV s=(pre ++ [⟨s.extract k (z0i s k),h4⟩]) ++ (z0n s (z0i s k+1)).map toW):=by
     show zV s=_;rw [HW.out,HG.out,List.map_cons,zcF h4];simp
    have hlen:pre.length < (zV s).length:=(by rw [HP.out];simp);obtain ⟨fn,tmps,assign,body,hy,hR⟩:=hY pre ⟨s.extract k (z0i s k),h4⟩ wr hJ hlen;dsimp only at hy;have HE:=zaA s k (by omega) h30 wr;generalize z0i s k=m at *;clear h3
    gi_wp2_with (refine ⟨trivial,?_⟩;gi_at_call 80;refine (callsIn_wide.2 HE).mono ?_;rintro e w' ⟨rfl,rfl⟩)
    refine hR.mono ?_;rintro e W3 (⟨rfl,hJ3,hk3⟩ | ⟨rfl,hJx3⟩)
    ·have hB3:=Eq.trans hk3 hBr
     gi_wp2
     go_roundw
     case rel=>exact ⟨m+1,_,by go_num,HN,HP,hB3,hJ3⟩
     case measure=>simp [intOf];omega
    ·gi_wp2
     refine bodyPost_ret (results_none rfl _ _ _) rfl ?_;exact ⟨⟨_,rfl⟩,.inr ⟨_,⟨_,HP.out.symm⟩,hJx3⟩⟩
   ·have HZ:Hid (z0n s k=[]):=z2r hlt
    gi_wp2
    go_end0
    exact ⟨⟨_,rfl⟩,.inl ⟨pre,by rw [HW.out,HZ.out];simp,hJ⟩⟩
theorem z6H (B:Nat) (s:ByteArray) (hs:s.size<=maxLen) (w:World) (hBn:B < w.heap.size) (hc:w.heap[B]?=some (.cells #[.string s] 9)) :
  SeqStopsK Fence.wide 3 Tryz.prog 79 #[.pointer (some ⟨B,0,none⟩)] (fun x:W30=>#[Value.string x.1]) (z2X B) (fun ys=>ys=zV s) (fun pre=>pre <+: zV s) (zV s).length w:=fun l J Jx W hW _ _ hY h0 =>
 zcH l B s hs J Jx hY W ((hW.block B hBn).trans hc) h0
end
section
open Go.RowKit Go.Shelf
attribute [local go_sem] Oper.semAt_some
def z0y (ws:List W30):Nat:=ws.foldl (fun n x=>max n x.1.size) 0
theorem z67 (ws:List W30) (x:W30):z0y (ws ++ [x])=max (z0y ws) x.1.size:=by simp [z0y]
theorem z5z (ws:List W30):z0y ws<=30:=by
 have:∀ (l:List W30) (n:Nat),n<=30->l.foldl (fun n x=>max n x.1.size) n<=30:=by
  intro l
  induction l with
  | nil=>intro n h;exact h
  | cons x r ih=>intro n h;exact ih _ (Nat.max_le.2 ⟨h,x.2.2⟩)
 exact this ws 0 (by omega)
theorem z9K (s:ByteArray) (hs:s.size<=maxLen) (w:World) :
  Calls Tryz.prog 39 #[.string s] w fun e w'=>e=.returned (int i64 (z0y (zV s)))/\Below w.heap.size w w':=by
 refine (callsIn_wide (n:=4)).1 ?_;refine callsIn_of_wp_marks Tryz.func39 rfl trivial ?_ rfl;simp only [Tryz.ntmps39,List.size_toArray,List.length_cons,List.length_nil,Nat.reduceAdd,Nat.reduceSub,Array.replicate_succ,Array.replicate_zero,List.push_toArray,List.append_toArray,List.nil_append,List.cons_append]
 gi_wp2_with (refine ⟨trivial,?_⟩;gi_at_call 60;refine (callsIn_wide.2 (z6G s _)).mono ?_;rintro e w' ⟨rfl,rfl⟩)
 have hs0:=zbr w (int i64 0) 3;have hB0:Below w.heap.size w ((w.alloc (.cells #[int i64 0] 3)).alloc (.cells #[.string s] 9)):=ze (ze (Below.refl _ _) _) _
 have hbx:((w.alloc (.cells #[int i64 0] 3)).alloc (.cells #[.string s] 9)).heap[w.heap.size+1]?=some (.cells #[.string s] 9):=by
  have:=World.alloc_heap_new (w.alloc (.cells #[int i64 0] 3)) (.cells #[.string s] 9)
  rwa [World.size_alloc] at this
 refine wpIn_rangeFunc_ownF rfl (by omega) (gf:=79) (lb:=#[.pointer (some ⟨w.heap.size+1,0,none⟩)]) rfl trivial (enters_of Tryz.func79 (by kernel_rfl) rfl)
  (z6H (w.heap.size+1) s hs _ (by simp) hbx) (fun h k=>z2X.trans h k) (z7g (by simp)) (Below.refl _ _) (fun _=>rfl)
  (fun pre W=>(W.cell? ⟨w.heap.size,0,none⟩=some (int i64 (z0y pre))/\W.frozen? ⟨w.heap.size,0,none⟩=false)/\Below w.heap.size w W)
  (fun _ _ _=>False)
  (OwnFrom.and (Own.from (fun s A B row hs hg hr=>⟨cell_kept hs.1 hg hr,(frozen_kept hs.1 hg hr).trans hs.2⟩) _) (ownFrom_below (Nat.le_refl _) (by simp;omega)))
  (fun _ _ _ _ _ hs _ _=>hs)
  ⟨⟨z2E _ hs0.1,z7Z _ hs0.1 hs0.2⟩,hB0⟩
  (fun x=>{ tmps:=#[.string s,undef,int i64 0,.pointer (some ⟨w.heap.size,0,none⟩),.string x.1,.string s,.func (.func 79) #[] #[.pointer (some ⟨w.heap.size+1,0,none⟩)],.string x.1,undef,undef,undef,undef,undef],defers:=[] }) ?assign ?body ?done ?stop
 case assign =>
  intro l x W K hK
  gi_wp2
  exact hK
 case body =>
  rintro l pre x W ⟨⟨hc,hf⟩,hB⟩ _;have hx:=x.2;have hl:=z5z pre;have hbn:(W.setCell ⟨w.heap.size,0,none⟩ (int i64 (z0y (pre ++ [x])))).heap[w.heap.size+1]?=W.heap[w.heap.size+1]?:=Below.heap_setCell _ _ _ _ (by simp)
  have HO:=Hd (show KeepsOthers W (W.setCell ⟨w.heap.size,0,none⟩ (int i64 (z0y (pre ++ [x]))))/\z2X (w.heap.size+1) W (W.setCell ⟨w.heap.size,0,none⟩ (int i64 (z0y (pre ++ [x])))) /\
   (((W.setCell ⟨w.heap.size,0,none⟩ (int i64 (z0y (pre ++ [x])))).cell? ⟨w.heap.size,0,none⟩=some (int i64 (z0y (pre ++ [x])))/\(W.setCell ⟨w.heap.size,0,none⟩ (int i64 (z0y (pre ++ [x])))).frozen? ⟨w.heap.size,0,none⟩=false) /\
   Below w.heap.size w (W.setCell ⟨w.heap.size,0,none⟩ (int i64 (z0y (pre ++ [x]))))) from ⟨KeepsOthers.setCell _ _ _,hbn,⟨World.cell?_setCell_same' _ _ _ (by rw [hc];rfl),by rw [World.frozen?_setCell];exact hf⟩,hB.setCell (p:=⟨w.heap.size,0,none⟩) (Nat.le_refl _) _⟩)
  have HM:=Hd (z67 pre x);clear hbn
  gi_wp2
  ·rename_i hlt
   have e:z0y (pre ++ [x])=x.1.size:=(by rw [HM.out];omega);have h:=HO.out;rw [e] at h;exact ⟨h.1,h.2.1,by rw [e];exact h.2.2.1,h.2.2.2⟩
  ·rename_i hlt
   have e:z0y (pre ++ [x])=z0y pre:=(by rw [HM.out];omega);have h:=HO.out;rw [e] at h;exact ⟨h.1,h.2.1,by rw [e];exact h.2.2.1,h.2.2.2⟩
 case done =>
  rintro D ys W hD rfl ⟨⟨hc,_⟩,hB⟩ hK
  gi_wp2
  refine ⟨by simp,.inl ⟨_,_,rfl,run_takeDeferred hK,?_⟩⟩;exact ⟨_,results_tmp rfl _ _ _,rfl,hB.trans (belowK_b (w:=w) (Nat.le_refl _) W D _ _ (by simp at hD;omega) hK rfl rfl)⟩
 case stop =>
  rintro D c pre W _ _ h _;exact h.elim
end
end Go.Proofs.YtggmjiddadjilalGreat
