/-
  PROVED HERE: the model's l6Wants: what parts, and what others want beyond what they have, in memory of its own; nothing that was in memory is turned. Also: 1 more texts of the same proof.
-/
import Derived.Test.YtggmjiddadjilaeGreatC39
import Derived.Test.YtggmjiddadjilaeGreatC34
import Derived.Test.YtggmjiddadjilaeGreatC13
import Derived.Test.YtggmjiddadjilaeGreatC33
import Derived.Test.YtggmjiddadjilaeGreatC28
import Derived.Test.YtggmjiddadjilaeGreatC24
import Derived.Test.YtggmjiddadjilaeGreatC35
import Derived.Test.YtggmjiddadjilaeGreatC29
import Derived.Deep.DeepCutAuto
import Derived.Deep.RegionWith
namespace Go.Proofs.YtggmjiddadjilaeGreat
open Go.RowKit Go.BigFrame
set_option maxRecDepth 100000 in
set_option maxHeartbeats 1000000 in
theorem specl6Wants2 (ac ar:Option Addr) (cc cr:Nat) (t:T) (width:Int) (hw:0≤width∧width≤300) (L:List Int) (C:Nat) (hC:C≤88) (hCt:C=colN t) (hLC:L.length=C) (hLs:L.all wtB=true) (ah aw:Option Addr) (ch cw:Nat) (w:World) {z:Nat} (hc:ColsAt w z (.slice ac t.cols.length cc) t.cols) (h1:IntsAt w (.slice ah C ch) L) :
  Calls Tryz.prog 84 #[.agg #[.slice ac t.cols.length cc,.int .i64 t.head,.int .i64 t.foot,.slice ar t.rows.length cr,.int .i64 t.gap],.int .i64 2,.slice ah C ch,.slice aw C cw,.int .i64 width] w fun e w'=>∃ v,e=.returned v∧RowI w' w.heap.size w'.heap.size v (want1 t width L)∧Below w.heap.size w w':=by
 have hmx:Tryz.prog.follows .mixedOrders=true:=by kernel_rfl
 obtain ⟨i0,hi,hz0,hz1,hz2⟩:=info_parts infoIc
 have HC:=Hd hc
 have H1:=Hd h1
 have HL:=Hd hLC
 have HLn:Hid ((want1 t width L).length=C):=by rw [Hid,want1_len t width L,hLC]
 have HG:=Hd (fun k (hk:k < C)=>want1_get (t:=t) (width:=width) (l:=L) (k:=k) (by omega))
 have HLg:=Hd (getD_small hLs)
 have HKd:=Hd (fun j (hj:j < C)=>sd_kind (t:=t) (k:=j) (by omega))
 clear hCt
 have K1:=k_alloc (Below.refl w.heap.size w) (.cells #[.slice ac t.cols.length cc,.int .i64 t.head,.int .i64 t.foot,.slice ar t.rows.length cr,.int .i64 t.gap] 26)
 have X1:=newestB w (.cells #[.slice ac t.cols.length cc,.int .i64 t.head,.int .i64 t.foot,.slice ar t.rows.length cr,.int .i64 t.gap] 26)
 have hs1:(w.alloc (.cells #[.slice ac t.cols.length cc,.int .i64 t.head,.int .i64 t.foot,.slice ar t.rows.length cr,.int .i64 t.gap] 26)).heap.size=w.heap.size+1:=by simp
 have HR0:=Hd (row_lit (w.alloc (.cells #[.slice ac t.cols.length cc,.int .i64 t.head,.int .i64 t.foot,.slice ar t.rows.length cr,.int .i64 t.gap] 26)) (w.heap.size+1) (by omega))
 have HK0:=Hd (k_alloc K1 (.cells #[] 3))
 have HX0:=Hd ((Below.heap_alloc (w.alloc (.cells #[.slice ac t.cols.length cc,.int .i64 t.head,.int .i64 t.foot,.slice ar t.rows.length cr,.int .i64 t.gap] 26)) (.cells #[] 3) w.heap.size (by omega)).trans X1)
 rw [hs1] at HR0
 clear hc K1 X1 h1 hLC hLs
 go_enter Tryz.func84,Tryz.ntmps84
 go_wp2_with fail
 go_loopw [11,12] (fun o i W=>∃ k:Nat,i=.int .i64 k∧k≤C∧Hid (W.ownsRow (w.heap.size+1) 3 1 o ((want1 t width L).take k).length (((want1 t width L).take k).map (Value.int .i64)))∧Hid (Below w.heap.size w W)∧Hid (W.heap[w.heap.size]?=some (.cells #[.slice ac t.cols.length cc,.int .i64 t.head,.int .i64 t.foot,.slice ar t.rows.length cr,.int .i64 t.gap] 26))) (fun _ i _=>C - (intOf i).toNat)
 case atStart=>exact ⟨0,rfl,Nat.zero_le _,by rw [List.take_zero];exact HR0.out.owns,HK0,HX0⟩
 case round =>
  clear HR0 HK0 HX0
  obtain ⟨k,rfl,hk,HO,HB,HX⟩:=hrel
  by_cases hlt:k < C
  case neg =>
   obtain rfl:k=C:=by omega
   have HR:=Hd (RowI.of_owns HO.out)
   rw [show (want1 t width L).take k=want1 t width L by rw [List.take_of_length_le (by rw [HLn.out];exact Nat.le_refl _)]] at HR
   go_wp2
   go_ret
   exact ⟨_,rfl,HR.out.base (by omega) (Nat.le_refl _),HB.out⟩
  have hwz:w.heap.size < wr.heap.size:=(bL HX.out)
  have b0:wr.cell? ⟨w.heap.size,0,none⟩=some (.slice ac t.cols.length cc):=cellB HX.out
  have b1:wr.cell? ⟨w.heap.size,1,none⟩=some (.int .i64 t.head):=cellB HX.out
  have b2:wr.cell? ⟨w.heap.size,2,none⟩=some (.int .i64 t.foot):=cellB HX.out
  have b3:wr.cell? ⟨w.heap.size,3,none⟩=some (.slice ar t.rows.length cr):=cellB HX.out
  have b4:wr.cell? ⟨w.heap.size,4,none⟩=some (.int .i64 t.gap):=cellB HX.out
  have KS:=Hd (specl5Said ac ar cc cr t (k:Int) (by omega) wr (HC.out.kept HB.out))
  have hkq:=kind_eq t 2 k
  have hol:((want1 t width L).take k).length≤k:=by rw [List.length_take];omega
  have HT:Hid ((want1 t width L).take (k+1)=(want1 t width L).take k ++ [(want1 t width L).getD k 0]):=by rw [Hid,take_nextI (by rw [HLn.out];exact hlt)]
  rw [HG.out k hlt] at HT
  have hkd:=HKd.out k hlt
  generalize (want1 t width L).take k=xs at HO HT hol
  generalize sd t.cols k=p at KS hkq HT hkd
  cases hp:kindP t 2 k with
  | false =>
   rw [hp] at hkq HT
   simp only [Bool.false_eq_true,if_false] at HT
   clear hp
   go_wp2_with fail
   refine KS.out.mono ?_
   rintro e w1 ⟨rfl,hb1⟩
   have HB1:=Hd (k_alloc (k_trans HB.out hb1) (.cells #[.int .i64 p.1,.int .i64 p.2] 45))
   have HX1:=Hd ((Below.heap_alloc w1 (.cells #[.int .i64 p.1,.int .i64 p.2] 45) w.heap.size (by have:=hb1.size;omega)).trans ((hb1.block w.heap.size hwz).trans HX.out))
   have hsz:w.heap.size+1≤w1.heap.size:=by have:=hb1.size;omega
   have hsz2:(w1.alloc (.cells #[.int .i64 p.1,.int .i64 p.2] 45)).heap.size=w1.heap.size+1:=by simp
   have HOx:=Hd (RowI.of_owns HO.out |>.kept (w':=w1.alloc (.cells #[.int .i64 p.1,.int .i64 p.2] 45)) (fun j h0 _ _=>(Below.heap_alloc _ _ _ (Nat.lt_of_lt_of_le h0 hb1.size)).trans (hb1.block j h0)))
   have HY:=Hd (newestB w1 (.cells #[.int .i64 p.1,.int .i64 p.2] 45))
   clear hb1 b0 b1 b2 b3 b4 HO HB HX
   go_upto_region 6 with fail
   generalize w1.alloc (.cells #[.int .i64 p.1,.int .i64 p.2] 45)=W2 at HB1 HX1 HOx HY hsz2 ⊢
   generalize w1.heap.size=yb at HY hsz hsz2 ⊢
   have hszW:w.heap.size+1≤W2.heap.size:=by omega
   clear hsz2
   have y0:W2.cell? ⟨yb,0,none⟩=some (.int .i64 p.1):=cellB HY.out
   have hO4:=HOx.out.owns
   go_wp2_with (at_builtin;refine wpList_append_own _ rfl _ _ 32 rfl (w.heap.size+1) 3 i0 (.int .i64 0) 1 8 Tryz.underlying32 hi hz0 hz1 hz2 rfl (by decide) _ _ _ rfl (hO4.alloc _) ⟨W2.heap.size,0,none⟩ 1 1 [.int .i64 0] rfl rfl ?c1 ?c2 ?c3 ?c4 ?c5 ?_)
   case c1 =>
    intro i u hi
    match i,hi with
    | 0,hi=>simp at hi;subst hi;simp [Addr.add]
   case c2=>intro u hu;simp at hu;subst hu;rfl
   case c3=>unfold maxLen;omega
   case c4=>omega
   case c5=>simp;omega
   intro v' w5 hown' hgrow' _
   obtain ⟨hB5,hX5⟩:=app_keeps (Nat.le_succ _) hO4 HB1.out hgrow'
   have HB5:=Hd hB5
   have HX5:=Hd ((hX5 w.heap.size (Nat.lt_succ_self _) (by omega)).trans HX1.out)
   have HO5:Hid (w5.ownsRow (w.heap.size+1) 3 1 v' (xs ++ [0]).length ((xs ++ [0]).map (Value.int .i64))):=by rw [List.length_append,List.map_append];exact hown'
   obtain ⟨g',cap'',rfl⟩:=Joins.ownsRow_form hown' (by omega)
   clear hown' hgrow' hO4 hB5 hX5 HB1 HX1
   go_wp2
   go_roundw
   case rel=>exact ⟨k+1,by go_num,by omega,by rw [HT.out];exact HO5,HB5,HX5⟩
   case measure=>simp [intOf];omega
  | true =>
   rw [hp] at hkq HT
   simp only [if_true] at HT
   have hp1:p.1=2:=by simpa using hkq
   clear hp hkq
   obtain ⟨b5,o5,c5,e5,hc51,hc52,hb5,hx5⟩:=H1.out.get (i:=k) (by rw [HL.out];exact hlt)
   rw [HL.out] at e5 hc51
   simp only [Value.slice.injEq,true_and] at e5
   obtain ⟨rfl,rfl⟩:=e5
   have hxs:=HLg.out k
   generalize L.getD k 0=x at hx5 hxs HT
   have hp2:1≤p.2∧p.2≤100:=by omega
   have hm0:0≤width * p.2:=Int.mul_nonneg hw.1 (by omega)
   have hm1:width * p.2≤30000:=Int.le_trans (Int.mul_le_mul hw.2 hp2.2 (by omega) (by omega)) (by omega)
   have hq:Int.tdiv (width * p.2) 100=width * p.2 / 100:=Int.tdiv_eq_ediv_of_nonneg hm0
   unfold maxLen at hc52
   go_wp2_with fail
   refine KS.out.mono ?_
   rintro e w1 ⟨rfl,hb1⟩
   have HB1:=Hd (k_alloc (k_trans HB.out hb1) (.cells #[.int .i64 p.1,.int .i64 p.2] 45))
   have HX1:=Hd ((Below.heap_alloc w1 (.cells #[.int .i64 p.1,.int .i64 p.2] 45) w.heap.size (by have:=hb1.size;omega)).trans ((hb1.block w.heap.size hwz).trans HX.out))
   have hsz:w.heap.size+1≤w1.heap.size:=by have:=hb1.size;omega
   have hsz2:(w1.alloc (.cells #[.int .i64 p.1,.int .i64 p.2] 45)).heap.size=w1.heap.size+1:=by simp
   have HOx:=Hd (RowI.of_owns HO.out |>.kept (w':=w1.alloc (.cells #[.int .i64 p.1,.int .i64 p.2] 45)) (fun j h0 _ _=>(Below.heap_alloc _ _ _ (Nat.lt_of_lt_of_le h0 hb1.size)).trans (hb1.block j h0)))
   have HY:=Hd (newestB w1 (.cells #[.int .i64 p.1,.int .i64 p.2] 45))
   clear hb1 b0 b1 b2 b3 b4 HO HB HX KS
   rw [hp1] at HB1 HX1 hsz2 HOx HY ⊢
   clear hp1
   go_upto_region 6 with fail
   generalize w1.alloc (.cells #[.int .i64 2,.int .i64 p.2] 45)=W2 at HB1 HX1 HOx HY hsz2 ⊢
   generalize w1.heap.size=yb at HY hsz hsz2 ⊢
   have y0:W2.cell? ⟨yb,0,none⟩=some (.int .i64 2):=cellB HY.out
   have hyb:yb < W2.heap.size:=(bL HY.out)
   have hwz2:w.heap.size < W2.heap.size:=by omega
   have hszW:w.heap.size+1≤W2.heap.size:=by omega
   clear hsz2
   have hne:=bw_some W2
   have m0:=bw_cell (a:=⟨yb,1,none⟩) hyb (cellB (p:=1) HY.out)
   have m1:=bw_cell (a:=⟨b5,o5+k,none⟩) (Nat.lt_of_lt_of_le hb5 HB1.out.size) ((HB1.out.cell (p:=⟨b5,o5+k,none⟩) hb5).trans hx5)
   have KM:=Hd (fun (W:World) (p:BW W) (i j:Int)=>bw_same (l1Max_any i j p.u))
   clear hx5
   go_upto_region 8 with fail
   refine wp_region_quiet_below hmx (by kernel_rfl) ?_
   repeat (go_big_quiet_step (first | (go_at_call 64;refine KM.out _ _ _ _)))
   refine wpQuiet_nil ?_
   intro W5 hw'
   obtain ⟨⟨Wx,hW5⟩,hw''⟩:=hw'
   subst hw''
   have HOz:=Hd (HOx.out.kept (fun j h0 _ _=>hW5.block j h0))
   have HYz:=(hW5.block _ hyb).trans HY.out
   replace HX1:=Hd ((hW5.block _ hwz2).trans HX1.out)
   replace HB1:=Hd (k_trans HB1.out hW5)
   have hsz5:w.heap.size+1≤W5.heap.size:=by have:=hW5.size;omega
   clear m0 m1 hne hW5 HOx HY y0
   have y0:W5.cell? ⟨yb,0,none⟩=some (.int .i64 2):=cellB HYz
   have hO4:=HOz.out.owns
   generalize max 0 (width * p.2 / 100 - x)=yy at HT ⊢
   go_wp2_with (at_builtin;refine wpList_append_own _ rfl _ _ 32 rfl (w.heap.size+1) 3 i0 (.int .i64 0) 1 8 Tryz.underlying32 hi hz0 hz1 hz2 rfl (by decide) _ _ _ rfl (hO4.alloc _) ⟨W5.heap.size,0,none⟩ 1 1 [.int .i64 yy] rfl rfl ?c1 ?c2 ?c3 ?c4 ?c5 ?_)
   case c1 =>
    intro i u hi
    match i,hi with
    | 0,hi=>simp at hi;subst hi;simp [Addr.add]
   case c2=>intro u hu;simp at hu;subst hu;rfl
   case c3=>unfold maxLen;omega
   case c4=>omega
   case c5=>simp;omega
   intro v' w5 hown' hgrow' _
   obtain ⟨hB5,hX5⟩:=app_keeps (Nat.le_succ _) hO4 HB1.out hgrow'
   have HB5:=Hd hB5
   have HX5:=Hd ((hX5 w.heap.size (Nat.lt_succ_self _) (by omega)).trans HX1.out)
   have HO5:Hid (w5.ownsRow (w.heap.size+1) 3 1 v' (xs ++ [yy]).length ((xs ++ [yy]).map (Value.int .i64))):=by rw [List.length_append,List.map_append];exact hown'
   obtain ⟨g',cap'',rfl⟩:=Joins.ownsRow_form hown' (by omega)
   clear hown' hgrow' hO4 hB5 hX5 HB1 HX1
   go_wp2
   go_roundw
   case rel=>exact ⟨k+1,by go_num,by omega,by rw [HT.out];exact HO5,HB5,HX5⟩
   case measure=>simp [intOf];omega
set_option maxRecDepth 100000 in
set_option maxHeartbeats 1000000 in
theorem specl6Wants0 (ac ar:Option Addr) (cc cr:Nat) (t:T) (width:Int) (L:List Int) (C:Nat) (hC:C≤88) (hLC:L.length=C) (hLs:L.all wtB=true) (ah aw:Option Addr) (ch cw:Nat) (w:World) {z:Nat} (hc:ColsAt w z (.slice ac t.cols.length cc) t.cols) (h1:IntsAt w (.slice ah C ch) L) (h2:IntsAt w (.slice aw C cw) (wishL t)) (hWu:UpB (wishL t) 5000) (hWl:(wishL t).length=C) :
  Calls Tryz.prog 84 #[.agg #[.slice ac t.cols.length cc,.int .i64 t.head,.int .i64 t.foot,.slice ar t.rows.length cr,.int .i64 t.gap],.int .i64 0,.slice ah C ch,.slice aw C cw,.int .i64 width] w fun e w'=>∃ v,e=.returned v∧RowI w' w.heap.size w'.heap.size v (want2 t L)∧Below w.heap.size w w':=by
 have hmx:Tryz.prog.follows .mixedOrders=true:=by kernel_rfl
 obtain ⟨i0,hi,hz0,hz1,hz2⟩:=info_parts infoIc
 have HC:=Hd hc
 have H1:=Hd h1
 have H2:=Hd h2
 have HWl:=Hd hWl
 have HWu:=Hd hWu
 have HL:=Hd hLC
 have HLn:Hid ((want2 t L).length=C):=by rw [Hid,want2_len t L,hLC]
 have HG:=Hd (fun k (hk:k < C)=>want2_get (t:=t) (l:=L) (k:=k) (by omega))
 have HLg:=Hd (getD_small hLs)
 have K1:=k_alloc (Below.refl w.heap.size w) (.cells #[.slice ac t.cols.length cc,.int .i64 t.head,.int .i64 t.foot,.slice ar t.rows.length cr,.int .i64 t.gap] 26)
 have X1:=newestB w (.cells #[.slice ac t.cols.length cc,.int .i64 t.head,.int .i64 t.foot,.slice ar t.rows.length cr,.int .i64 t.gap] 26)
 have hs1:(w.alloc (.cells #[.slice ac t.cols.length cc,.int .i64 t.head,.int .i64 t.foot,.slice ar t.rows.length cr,.int .i64 t.gap] 26)).heap.size=w.heap.size+1:=by simp
 have HR0:=Hd (row_lit (w.alloc (.cells #[.slice ac t.cols.length cc,.int .i64 t.head,.int .i64 t.foot,.slice ar t.rows.length cr,.int .i64 t.gap] 26)) (w.heap.size+1) (by omega))
 have HK0:=Hd (k_alloc K1 (.cells #[] 3))
 have HX0:=Hd ((Below.heap_alloc (w.alloc (.cells #[.slice ac t.cols.length cc,.int .i64 t.head,.int .i64 t.foot,.slice ar t.rows.length cr,.int .i64 t.gap] 26)) (.cells #[] 3) w.heap.size (by omega)).trans X1)
 rw [hs1] at HR0
 clear hc K1 X1 h1 h2 hWu hWl hLC hLs
 go_enter Tryz.func84,Tryz.ntmps84
 go_wp2_with fail
 go_loopw [11,12] (fun o i W=>∃ k:Nat,i=.int .i64 k∧k≤C∧Hid (W.ownsRow (w.heap.size+1) 3 1 o ((want2 t L).take k).length (((want2 t L).take k).map (Value.int .i64)))∧Hid (Below w.heap.size w W)∧Hid (W.heap[w.heap.size]?=some (.cells #[.slice ac t.cols.length cc,.int .i64 t.head,.int .i64 t.foot,.slice ar t.rows.length cr,.int .i64 t.gap] 26))) (fun _ i _=>C - (intOf i).toNat)
 case atStart=>exact ⟨0,rfl,Nat.zero_le _,by rw [List.take_zero];exact HR0.out.owns,HK0,HX0⟩
 case round =>
  clear HR0 HK0 HX0
  obtain ⟨k,rfl,hk,HO,HB,HX⟩:=hrel
  by_cases hlt:k < C
  case neg =>
   obtain rfl:k=C:=by omega
   have HR:=Hd (RowI.of_owns HO.out)
   rw [show (want2 t L).take k=want2 t L by rw [List.take_of_length_le (by rw [HLn.out];exact Nat.le_refl _)]] at HR
   go_wp2
   go_ret
   exact ⟨_,rfl,HR.out.base (by omega) (Nat.le_refl _),HB.out⟩
  have hwz:w.heap.size < wr.heap.size:=(bL HX.out)
  have b0:wr.cell? ⟨w.heap.size,0,none⟩=some (.slice ac t.cols.length cc):=cellB HX.out
  have b1:wr.cell? ⟨w.heap.size,1,none⟩=some (.int .i64 t.head):=cellB HX.out
  have b2:wr.cell? ⟨w.heap.size,2,none⟩=some (.int .i64 t.foot):=cellB HX.out
  have b3:wr.cell? ⟨w.heap.size,3,none⟩=some (.slice ar t.rows.length cr):=cellB HX.out
  have b4:wr.cell? ⟨w.heap.size,4,none⟩=some (.int .i64 t.gap):=cellB HX.out
  have KS:=Hd (specl5Said ac ar cc cr t (k:Int) (by omega) wr (HC.out.kept HB.out))
  have hkq:=kind_eq t 0 k
  have hol:((want2 t L).take k).length≤k:=by rw [List.length_take];omega
  have HT:Hid ((want2 t L).take (k+1)=(want2 t L).take k ++ [(want2 t L).getD k 0]):=by rw [Hid,take_nextI (by rw [HLn.out];exact hlt)]
  rw [HG.out k hlt] at HT
  generalize (want2 t L).take k=xs at HO HT hol
  generalize sd t.cols k=p at KS hkq HT
  cases hp:kindP t 0 k with
  | false =>
   rw [hp] at hkq HT
   simp only [Bool.false_eq_true,if_false] at HT
   clear hp
   go_wp2_with fail
   refine KS.out.mono ?_
   rintro e w1 ⟨rfl,hb1⟩
   have HB1:=Hd (k_alloc (k_trans HB.out hb1) (.cells #[.int .i64 p.1,.int .i64 p.2] 45))
   have HX1:=Hd ((Below.heap_alloc w1 (.cells #[.int .i64 p.1,.int .i64 p.2] 45) w.heap.size (by have:=hb1.size;omega)).trans ((hb1.block w.heap.size hwz).trans HX.out))
   have hsz:w.heap.size+1≤w1.heap.size:=by have:=hb1.size;omega
   have hsz2:(w1.alloc (.cells #[.int .i64 p.1,.int .i64 p.2] 45)).heap.size=w1.heap.size+1:=by simp
   have HOx:=Hd (RowI.of_owns HO.out |>.kept (w':=w1.alloc (.cells #[.int .i64 p.1,.int .i64 p.2] 45)) (fun j h0 _ _=>(Below.heap_alloc _ _ _ (Nat.lt_of_lt_of_le h0 hb1.size)).trans (hb1.block j h0)))
   have HY:=Hd (newestB w1 (.cells #[.int .i64 p.1,.int .i64 p.2] 45))
   clear hb1 b0 b1 b2 b3 b4 HO HB HX
   go_upto_region 6 with fail
   generalize w1.alloc (.cells #[.int .i64 p.1,.int .i64 p.2] 45)=W2 at HB1 HX1 HOx HY hsz2 ⊢
   generalize w1.heap.size=yb at HY hsz hsz2 ⊢
   have hszW:w.heap.size+1≤W2.heap.size:=by omega
   clear hsz2
   have y0:W2.cell? ⟨yb,0,none⟩=some (.int .i64 p.1):=cellB HY.out
   have hO4:=HOx.out.owns
   go_wp2_with (at_builtin;refine wpList_append_own _ rfl _ _ 32 rfl (w.heap.size+1) 3 i0 (.int .i64 0) 1 8 Tryz.underlying32 hi hz0 hz1 hz2 rfl (by decide) _ _ _ rfl (hO4.alloc _) ⟨W2.heap.size,0,none⟩ 1 1 [.int .i64 0] rfl rfl ?c1 ?c2 ?c3 ?c4 ?c5 ?_)
   case c1 =>
    intro i u hi
    match i,hi with
    | 0,hi=>simp at hi;subst hi;simp [Addr.add]
   case c2=>intro u hu;simp at hu;subst hu;rfl
   case c3=>unfold maxLen;omega
   case c4=>omega
   case c5=>simp;omega
   intro v' w5 hown' hgrow' _
   obtain ⟨hB5,hX5⟩:=app_keeps (Nat.le_succ _) hO4 HB1.out hgrow'
   have HB5:=Hd hB5
   have HX5:=Hd ((hX5 w.heap.size (Nat.lt_succ_self _) (by omega)).trans HX1.out)
   have HO5:Hid (w5.ownsRow (w.heap.size+1) 3 1 v' (xs ++ [0]).length ((xs ++ [0]).map (Value.int .i64))):=by rw [List.length_append,List.map_append];exact hown'
   obtain ⟨g',cap'',rfl⟩:=Joins.ownsRow_form hown' (by omega)
   clear hown' hgrow' hO4 hB5 hX5 HB1 HX1
   go_wp2
   go_roundw
   case rel=>exact ⟨k+1,by go_num,by omega,by rw [HT.out];exact HO5,HB5,HX5⟩
   case measure=>simp [intOf];omega
  | true =>
   rw [hp] at hkq HT
   simp only [if_true] at HT
   have hp1:p.1=0:=by simpa using hkq
   clear hp hkq
   obtain ⟨b5,o5,c5,e5,hc51,hc52,hb5,hx5⟩:=H1.out.get (i:=k) (by rw [HL.out];exact hlt)
   rw [HL.out] at e5 hc51
   simp only [Value.slice.injEq,true_and] at e5
   obtain ⟨rfl,rfl⟩:=e5
   have hxs:=HLg.out k
   generalize L.getD k 0=x at hx5 hxs HT
   obtain ⟨b6,o6,c6,e6,hc61,hc62,hb6,hx6⟩:=H2.out.get (i:=k) (by rw [HWl.out];exact hlt)
   rw [HWl.out] at e6 hc61
   simp only [Value.slice.injEq,true_and] at e6
   obtain ⟨rfl,rfl⟩:=e6
   have hys:=HWu.out k (by rw [HWl.out];exact hlt)
   generalize (wishL t).getD k 0=y at hx6 hys HT
   unfold maxLen at hc52 hc62
   go_wp2_with fail
   refine KS.out.mono ?_
   rintro e w1 ⟨rfl,hb1⟩
   have HB1:=Hd (k_alloc (k_trans HB.out hb1) (.cells #[.int .i64 p.1,.int .i64 p.2] 45))
   have HX1:=Hd ((Below.heap_alloc w1 (.cells #[.int .i64 p.1,.int .i64 p.2] 45) w.heap.size (by have:=hb1.size;omega)).trans ((hb1.block w.heap.size hwz).trans HX.out))
   have hsz:w.heap.size+1≤w1.heap.size:=by have:=hb1.size;omega
   have hsz2:(w1.alloc (.cells #[.int .i64 p.1,.int .i64 p.2] 45)).heap.size=w1.heap.size+1:=by simp
   have HOx:=Hd (RowI.of_owns HO.out |>.kept (w':=w1.alloc (.cells #[.int .i64 p.1,.int .i64 p.2] 45)) (fun j h0 _ _=>(Below.heap_alloc _ _ _ (Nat.lt_of_lt_of_le h0 hb1.size)).trans (hb1.block j h0)))
   have HY:=Hd (newestB w1 (.cells #[.int .i64 p.1,.int .i64 p.2] 45))
   clear hb1 b0 b1 b2 b3 b4 HO HB HX KS
   rw [hp1] at HB1 HX1 hsz2 HOx HY ⊢
   clear hp1
   go_upto_region 6 with fail
   generalize w1.alloc (.cells #[.int .i64 0,.int .i64 p.2] 45)=W2 at HB1 HX1 HOx HY hsz2 ⊢
   generalize w1.heap.size=yb at HY hsz hsz2 ⊢
   have y0:W2.cell? ⟨yb,0,none⟩=some (.int .i64 0):=cellB HY.out
   have hyb:yb < W2.heap.size:=(bL HY.out)
   have hwz2:w.heap.size < W2.heap.size:=by omega
   have hszW:w.heap.size+1≤W2.heap.size:=by omega
   clear hsz2
   have hne:=bw_some W2
   have m0:=bw_cell (a:=⟨yb,1,none⟩) hyb (cellB (p:=1) HY.out)
   have m1:=bw_cell (a:=⟨b5,o5+k,none⟩) (Nat.lt_of_lt_of_le hb5 HB1.out.size) ((HB1.out.cell (p:=⟨b5,o5+k,none⟩) hb5).trans hx5)
   have m2:=bw_cell (a:=⟨b6,o6+k,none⟩) (Nat.lt_of_lt_of_le hb6 HB1.out.size) ((HB1.out.cell (p:=⟨b6,o6+k,none⟩) hb6).trans hx6)
   have KM:=Hd (fun (W:World) (p:BW W) (i j:Int)=>bw_same (l1Max_any i j p.u))
   clear hx5 hx6
   go_upto_region 10 with fail
   refine wp_region_quiet_below hmx (by kernel_rfl) ?_
   repeat (go_big_quiet_step (first | (go_at_call 64;refine KM.out _ _ _ _)))
   refine wpQuiet_nil ?_
   intro W5 hw'
   obtain ⟨⟨Wx,hW5⟩,hw''⟩:=hw'
   subst hw''
   have HOz:=Hd (HOx.out.kept (fun j h0 _ _=>hW5.block j h0))
   have HYz:=(hW5.block _ hyb).trans HY.out
   replace HX1:=Hd ((hW5.block _ hwz2).trans HX1.out)
   replace HB1:=Hd (k_trans HB1.out hW5)
   have hsz5:w.heap.size+1≤W5.heap.size:=by have:=hW5.size;omega
   clear m0 m1 m2 hne hW5 HOx HY y0
   have y0:W5.cell? ⟨yb,0,none⟩=some (.int .i64 0):=cellB HYz
   have hO4:=HOz.out.owns
   generalize max 0 (y - x)=yy at HT ⊢
   go_wp2_with (at_builtin;refine wpList_append_own _ rfl _ _ 32 rfl (w.heap.size+1) 3 i0 (.int .i64 0) 1 8 Tryz.underlying32 hi hz0 hz1 hz2 rfl (by decide) _ _ _ rfl (hO4.alloc _) ⟨W5.heap.size,0,none⟩ 1 1 [.int .i64 yy] rfl rfl ?c1 ?c2 ?c3 ?c4 ?c5 ?_)
   case c1 =>
    intro i u hi
    match i,hi with
    | 0,hi=>simp at hi;subst hi;simp [Addr.add]
   case c2=>intro u hu;simp at hu;subst hu;rfl
   case c3=>unfold maxLen;omega
   case c4=>omega
   case c5=>simp;omega
   intro v' w5 hown' hgrow' _
   obtain ⟨hB5,hX5⟩:=app_keeps (Nat.le_succ _) hO4 HB1.out hgrow'
   have HB5:=Hd hB5
   have HX5:=Hd ((hX5 w.heap.size (Nat.lt_succ_self _) (by omega)).trans HX1.out)
   have HO5:Hid (w5.ownsRow (w.heap.size+1) 3 1 v' (xs ++ [yy]).length ((xs ++ [yy]).map (Value.int .i64))):=by rw [List.length_append,List.map_append];exact hown'
   obtain ⟨g',cap'',rfl⟩:=Joins.ownsRow_form hown' (by omega)
   clear hown' hgrow' hO4 hB5 hX5 HB1 HX1
   go_wp2
   go_roundw
   case rel=>exact ⟨k+1,by go_num,by omega,by rw [HT.out];exact HO5,HB5,HX5⟩
   case measure=>simp [intOf];omega
def NdWfalse (W2:World) (D:Nat) (v:Value) (L:List Int) (cb:Nat) (bx:Obj) (W:World):Prop:=Below W2.heap.size W2 W∧RowI W W2.heap.size D v L∧W.heap[cb]?=some bx
theorem NdWfalse.kept {W2 W W':World} {D cb:Nat} {v:Value} {L:List Int} {bx:Obj} (h:NdWfalse W2 D v L cb bx W) (hb:Below W.heap.size W W'):NdWfalse W2 D v L cb bx W' :=
 ⟨h.1.trans (hb.mono h.1.size),h.2.1.kept (fun j h0 _ _=>hb.block j h0),(hb.block cb (bL h.2.2)).trans h.2.2⟩
set_option maxRecDepth 100000 in
set_option maxHeartbeats 2000000 in
theorem specl5Need_false (ac ar:Option Addr) (cc cr:Nat) (t:T) (hD:Drawn t) (ag:Option Addr) (cg:Nat) (w:World) {z zg:Nat} (hr:RowsAt w z (.slice ar t.rows.length cr) t.rows) (hg:GsAt w zg (.slice ag (gOf t).cells.length cg) (gOf t).cells) (C:Nat) (hgc:(gOf t).cols=C) (hC1:1≤C) (a0:Option Addr) (c0:Nat) (h0:IntsAt w (.slice a0 C c0) (zeroL C)) :
  Calls Tryz.prog 67 #[.agg #[.slice ac t.cols.length cc,.int .i64 t.head,.int .i64 t.foot,.slice ar t.rows.length cr,.int .i64 t.gap],.agg #[.int .i64 (gOf t).rows,.int .i64 (gOf t).cols,.slice ag (gOf t).cells.length cg],.bool false,.slice a0 C c0] w fun e w'=>∃ v,e=.returned v∧RowI w' w.heap.size w'.heap.size v (needTo (fun x=>((wishOf (textOf t x):Nat):Int)) t.gap (gOf t).cells (zeroL C) 4)∧Below w.heap.size w w':=by
 obtain ⟨i0,hi0,hz0,hz1,hz2⟩:=info_parts infoI4
 obtain ⟨h40,C',hgc',hC88,hcel⟩:=cel_of hD
 obtain rfl:C'=C:=by rw [hgc'] at hgc;omega
 have hzl:(zeroL C').length=C':=by simp [zeroL]
 obtain ⟨P,hP⟩:∃ P:GC→Int,P=fun x=>((wishOf (textOf t x):Nat):Int):=⟨_,rfl⟩
 have hpl:∀ x:GC,P x≤30:=fun x=>by have:=wishOf_le (textOf t x);rw [hP];show ((wishOf (textOf t x):Nat):Int)≤30;omega
 have hpl0:∀ x:GC,0≤P x:=fun x=>by rw [hP];show (0:Int)≤((wishOf (textOf t x):Nat):Int);omega
 have HPx:=Hd (fun x=>show P x=((wishOf (textOf t x):Nat):Int) by rw [hP])
 rw [← hP]
 clear hP
 have HCel:=Hd hcel
 have hup:=need_up (p:=P) (l:=zeroL C') hcel h40 hzl hpl (zero_up _)
 have hps:=fun s hs=>pass_up (p:=P) (s:=((s+1:Nat):Int)) (l:=needTo P t.gap (gOf t).cells (zeroL C') s) hcel (by rw [needTo_len];exact hzl) hpl (hup s hs)
 have HPs:=Hd hps
 have hmx:Tryz.prog.follows .mixedOrders=true:=by kernel_rfl
 obtain ⟨b0,off0,cap0,e0,_,_,hbw0,_⟩:=h0.get (show 0 < (zeroL C').length by omega)
 simp only [Value.slice.injEq,hzl,true_and] at e0
 obtain ⟨rfl,rfl⟩:=e0
 obtain ⟨W1,hW1⟩:∃ W1,w.alloc (.cells #[.slice ac t.cols.length cc,.int .i64 t.head,.int .i64 t.foot,.slice ar t.rows.length cr,.int .i64 t.gap] 26)=W1:=⟨_,rfl⟩
 have hs1:W1.heap.size=w.heap.size+1:=by rw [← hW1];simp
 have K1:Below w.heap.size w W1:=by rw [← hW1];exact k_alloc (Below.refl _ _) _
 have X1:W1.heap[w.heap.size]?=some (.cells #[.slice ac t.cols.length cc,.int .i64 t.head,.int .i64 t.foot,.slice ar t.rows.length cr,.int .i64 t.gap] 26):=by rw [← hW1];exact newestB _ _
 obtain ⟨W2,hW2⟩:∃ W2,W1.alloc (.cells #[.int .i64 (gOf t).rows,.int .i64 (gOf t).cols,.slice ag (gOf t).cells.length cg] 36)=W2:=⟨_,rfl⟩
 have hs2:W2.heap.size=w.heap.size+2:=by rw [← hW2];simp [hs1]
 have K2:Below w.heap.size w W2:=by rw [← hW2];exact k_alloc K1 _
 have X2:W2.heap[w.heap.size]?=some (.cells #[.slice ac t.cols.length cc,.int .i64 t.head,.int .i64 t.foot,.slice ar t.rows.length cr,.int .i64 t.gap] 26):=by rw [← hW2];exact (Below.heap_alloc _ _ _ (by omega)).trans X1
 have Y2:W2.heap[w.heap.size+1]?=some (.cells #[.int .i64 (gOf t).rows,.int .i64 (gOf t).cols,.slice ag (gOf t).cells.length cg] 36):=by
  have:=newestB W1 (.cells #[.int .i64 (gOf t).rows,.int .i64 (gOf t).cols,.slice ag (gOf t).cells.length cg] 36)
  rw [hW2,hs1] at this
  exact this
 have H2:=Hd (And.intro (hr.kept K2) (And.intro (hg.kept K2) (And.intro X2 Y2)))
 have HI2:=Hd (h0.kept K2)
 have HK2:=Hd K2
 clear hr hg h0 X1 K1 X2 Y2 K2 hcel hup hps hD hgc hgc'
 go_enter Tryz.func67,Tryz.ntmps67
 go_upto_region 1 with fail
 clear hW1 hW2 W1 hs1
 have HS2:=Hd hs2
 clear hs2
 go_wp2_with (at_builtin;refine wpList_append_own_at _ rfl _ _ 32 rfl W2.heap.size 3 i0 (.int .i64 0) 1 8 Tryz.underlying32 hi0 hz0 hz1 hz2 rfl (by decide) _ 0 [] rfl (World.ownsRow_made (base:=W2.heap.size) (e:=3) (size:=1) W2 #[] 0 (Nat.le_refl _) (Nat.zero_le _) rfl) ⟨b0,off0,none⟩ C' c0 ((zeroL C').map (Value.int .i64)) rfl ?e1 (map_cells HI2.out (k_alloc (Below.refl _ _) _)) (map_one _) ?e4 ?e5 ?e6 ?_)
 case e1=>simp [zeroL]
 case e4=>unfold maxLen;omega
 case e5=>omega
 case e6=>simp
 intro v3 w3 ho3 hg3 _ _
 have R3:=Hd (RowI.of_owns (l:=zeroL C') (by simpa [zeroL] using ho3))
 have K3:Hid (Below W2.heap.size W2 w3):=(k_alloc (Below.refl W2.heap.size W2) (.cells #[] 3)).grown hg3 (by simp) (fun q hq=>by
  have:q=W2.heap.size:=by simpa [Value.ownBlock] using hq.symm
  omega)
 obtain ⟨a3,c3,rfl⟩:=R3.out.form
 rw [hzl] at R3 ⊢
 clear ho3 hg3 HI2
 go_wp2_with fail
 go_loopw [10] (fun s W=>∃ m:Nat,s=.int .i64 ((m:Int)+1)∧m≤4∧Hid (RowI W W2.heap.size w3.heap.size (.slice a3 C' c3) (needTo P t.gap (gOf t).cells (zeroL C') m))∧Hid (Below W2.heap.size W2 W)∧w3.heap.size≤W.heap.size) (fun s _=>5 - (intOf s).toNat)
 case atStart=>exact ⟨0,rfl,by omega,R3,K3,Nat.le_refl _⟩
 case round =>
  clear R3 K3
  obtain ⟨m,rfl,hm,HR,HB,hsz⟩:=hrel
  by_cases hlt:m < 4
  case neg =>
   obtain rfl:m=4:=by omega
   have HF:=Hd (HR.out.base (B':=w.heap.size) (D':=wr.heap.size) (by rw [HS2.out];omega) hsz)
   have HK:=Hd (HK2.out.trans (HB.out.mono (by rw [HS2.out];omega)))
   go_wp2
   go_ret
   exact ⟨_,rfl,HF.out,HK.out⟩
  have HUm:=Hd (HPs.out m (by omega) (by omega))
  go_wp2_with fail
  rw [show decide ((m:Int)+1≤4)=true by simp;omega]
  go_loopw [11] (fun s W=>∃ k:Nat,s=.int .i64 k∧k≤(gOf t).cells.length∧Hid (RowI W W2.heap.size w3.heap.size (.slice a3 C' c3) (passTo P t.gap ((m+1:Nat):Int) (gOf t).cells (needTo P t.gap (gOf t).cells (zeroL C') m) k))∧Hid (Below W2.heap.size W2 W)∧w3.heap.size≤W.heap.size) (fun s _=>(gOf t).cells.length - (intOf s).toNat)
  case atStart=>exact ⟨0,rfl,Nat.zero_le _,HR,HB,hsz⟩
  case round=>as_aux_lemma =>
   clear HR HB hsz
   obtain ⟨k,rfl,hk,HR,HB,hsz⟩:=hrel
   have Y:=Hd ((HB.out.block (w.heap.size+1) (by rw [HS2.out];omega)).trans H2.out.2.2.2)
   have y2:wr.cell? ⟨w.heap.size+1,2,none⟩=some (.slice ag (gOf t).cells.length cg):=cellB Y.out
   have hyw:w.heap.size+1 < wr.heap.size:=(bL Y.out)
   by_cases hkl:k < (gOf t).cells.length
   case neg =>
    obtain rfl:k=(gOf t).cells.length:=by omega
    clear Y
    go_wp2
    go_roundw
    case rel=>exact ⟨m+1,by go_num,by omega,HR,HB,hsz⟩
    case measure=>simp [intOf];omega
   obtain ⟨b,off,cap',e',hc1,hc2,hbl,hx,_⟩:=At.get (H2.out.2.1.kept HB.out) hkl
   simp only [Value.slice.injEq,true_and] at e'
   obtain ⟨rfl,rfl⟩:=e'
   unfold maxLen at hc2
   have HCe:=Hd (HCel.out k hkl)
   have HSz:=Hd (text_size HCe.out (H2.out.1.kept HB.out))
   obtain ⟨⟨rn,jn,cn,mn,e1,e2,e3,e4,h1,h2,h3,h4,h5⟩,hgp,hrs⟩:=HCel.out k hkl
   have hub:=HUm.out k hk
   have HNo:Hid ((mn:Int) ≠ ((m+1:Nat):Int)→passTo P t.gap ((m+1:Nat):Int) (gOf t).cells (needTo P t.gap (gOf t).cells (zeroL C') m) (k+1)=passTo P t.gap ((m+1:Nat):Int) (gOf t).cells (needTo P t.gap (gOf t).cells (zeroL C') m) k):=fun h=>by rw [passTo,if_neg (by rw [e4];exact h)]
   have HYes:Hid ((mn:Int)=((m+1:Nat):Int)→passTo P t.gap ((m+1:Nat):Int) (gOf t).cells (needTo P t.gap (gOf t).cells (zeroL C') m) (k+1)=wideL (passTo P t.gap ((m+1:Nat):Int) (gOf t).cells (needTo P t.gap (gOf t).cells (zeroL C') m) k) cn mn t.gap (P ((gOf t).cells.getD k dG))):=fun h=>by rw [passTo,if_pos (by rw [e4];exact h),e3,e4,Int.toNat_natCast,Int.toNat_natCast]
   have hll:=passTo_len P t.gap ((m+1:Nat):Int) (gOf t).cells (needTo P t.gap (gOf t).cells (zeroL C') m) k
   rw [needTo_len,hzl] at hll
   generalize (gOf t).cells.getD k dG=x at hx e1 e2 e3 e4 HYes hrs HCe HSz
   generalize hL:passTo P t.gap ((m+1:Nat):Int) (gOf t).cells (needTo P t.gap (gOf t).cells (zeroL C') m) k=L at HR HNo HYes hub hll
   clear hL
   have HKT:=Hd (fun (W:World) (hR:RowsAt W z (.slice ar t.rows.length cr) t.rows)=>specl5Text ac ar cc cr t x HCe.out W hR)
   simp only [e1,e2,e3,e4] at HKT
   obtain ⟨x0,x1,x2,x3,x4⟩:=hx
   rw [e1] at x0
   rw [e2] at x4
   rw [e3] at x1
   rw [e4] at x3
   by_cases hms:(mn:Int)=(m:Int)+1
   case neg =>
    have hmb:((mn:Int) != (m:Int)+1)=true:=by simpa using hms
    have HL:=Hd (HNo.out (by omega))
    clear HNo HYes e1 e2 e3 e4 hms Y
    go_wp2
    go_roundw
    case rel=>exact ⟨k+1,by go_num,by omega,by rw [HL.out];exact HR.out.kept (fun j h0 _ _=>Below.heap_alloc _ _ _ h0),k_alloc HB.out _,by simp;omega⟩
    case measure=>simp [intOf];omega
   obtain rfl:mn=m+1:=by omega
   have HL:=Hd (HYes.out rfl)
   have hmb:((m:Int)+1 != (m:Int)+1)=false:=by simp
   have hcast:((m+1:Nat):Int)=(m:Int)+1:=by omega
   rw [hcast] at x3
   simp only [hcast] at HKT
   clear HNo HYes e1 e2 e3 e4 hms hcast
   go_upto_region 10 with fail
   have HN4:Hid (NdWfalse W2 w3.heap.size (.slice a3 C' c3) L wr.heap.size (.cells #[.int .i64 (rn:Int),.int .i64 (cn:Int),.int .i64 x.rows,.int .i64 ((m:Int)+1),.int .i64 (jn:Int)] 49) (wr.alloc (.cells #[.int .i64 (rn:Int),.int .i64 (cn:Int),.int .i64 x.rows,.int .i64 ((m:Int)+1),.int .i64 (jn:Int)] 49))):=⟨k_alloc HB.out _,HR.out.kept (fun j h0 _ _=>Below.heap_alloc _ _ _ h0),newestB _ _⟩
   have hsz4:w3.heap.size≤(wr.alloc (.cells #[.int .i64 (rn:Int),.int .i64 (cn:Int),.int .i64 x.rows,.int .i64 ((m:Int)+1),.int .i64 (jn:Int)] 49)).heap.size:=by simp;omega
   generalize wr.alloc (.cells #[.int .i64 (rn:Int),.int .i64 (cn:Int),.int .i64 x.rows,.int .i64 ((m:Int)+1),.int .i64 (jn:Int)] 49)=W4 at HN4 hsz4 ⊢
   have HCz:Hid (w3.heap.size≤wr.heap.size):=hsz
   generalize wr.heap.size=cb at HN4 HCz ⊢
   clear Y HR HB hsz x0 x1 x2 x3 x4 hbl y2 hyw
   have X4:=(HN4.out.1.block w.heap.size (by rw [HS2.out];omega)).trans H2.out.2.2.1
   have C4:=HN4.out.2.2
   have ht4:w.heap.size < W4.heap.size:=(bL X4)
   have hcb4:cb < W4.heap.size:=(bL C4)
   obtain ⟨b0,b1,b2,b3,b4⟩:W4.cell? ⟨w.heap.size,0,none⟩=some (.slice ac t.cols.length cc)∧W4.cell? ⟨w.heap.size,1,none⟩=some (.int .i64 t.head)∧W4.cell? ⟨w.heap.size,2,none⟩=some (.int .i64 t.foot)∧W4.cell? ⟨w.heap.size,3,none⟩=some (.slice ar t.rows.length cr)∧W4.cell? ⟨w.heap.size,4,none⟩=some (.int .i64 t.gap):=⟨cellB X4,cellB X4,cellB X4,cellB X4,cellB X4⟩
   obtain ⟨q0,q1,q2,q3,q4⟩:W4.cell? ⟨cb,0,none⟩=some (.int .i64 (rn:Int))∧W4.cell? ⟨cb,1,none⟩=some (.int .i64 (cn:Int))∧W4.cell? ⟨cb,2,none⟩=some (.int .i64 x.rows)∧W4.cell? ⟨cb,3,none⟩=some (.int .i64 ((m:Int)+1))∧W4.cell? ⟨cb,4,none⟩=some (.int .i64 (jn:Int)):=⟨cellB C4,cellB C4,cellB C4,cellB C4,cellB C4⟩
   clear X4 C4
   go_wp2_with fail
   refine (HKT.out _ (H2.out.1.kept HN4.out.1)).mono ?_
   rintro e w5 ⟨rfl,_,hb5⟩
   have HN5:=Hd (HN4.out.kept hb5)
   have hsz5:w3.heap.size≤w5.heap.size:=Nat.le_trans hsz4 hb5.size
   clear hb5 HN4 hsz4 b0 b1 b2 b3 b4 q0 q1 q2 q3 q4 ht4 hcb4
   go_wp2_with fail
   refine (specTxtWish _ HSz.out _).mono ?_
   rintro e w6 ⟨rfl,rfl⟩
   generalize w6=W8 at HN5 hsz5
   have HN8:=HN5
   have hsz8:=hsz5
   clear HN5 hsz5
   rw [← HPx.out x]
   have hp0:=hpl0 x
   have hp30:=hpl x
   have HLk:Hid (lackV L cn (m+1) t.gap (P x)=P x - ((subL L cn (m+1)).sum+t.gap * (m:Int))):=by rw [Hid,lackV,show ((m+1:Nat):Int) - 1=(m:Int) by omega]
   have HOk:=Hd (fun h=>(lack_ok (l:=L) (c:=cn) (m:=m+1) (gap:=t.gap) (need:=P x) (fun i hi=>by have:=hub i hi;omega) (by omega) ⟨h4,h5⟩ hgp hp30 h).1)
   have HWn:Hid (lackV L cn (m+1) t.gap (P x)≤0→wideL L cn (m+1) t.gap (P x)=L):=fun h=>by rw [wideL,if_pos h]
   have HWy:Hid (¬ lackV L cn (m+1) t.gap (P x)≤0→wideL L cn (m+1) t.gap (P x)=addTo L cn (shareL (lackV L cn (m+1) t.gap (P x)) (subL L cn (m+1))) (m+1)):=fun h=>by rw [wideL,if_neg h]
   have hG:=gap_facts hgp hlt
   have HSubF:=Hd (sub_facts hub (show 1200 * (m:Int)+30 * (k:Int)≤50000 by omega) hll h3 h5)
   have HcL:Hid (cn+(m+1)≤L.length):=by rw [Hid,hll];exact h3
   generalize P x=need at hp0 hp30 HLk HOk HWn HWy HL
   go_upto_region 13 with fail
   obtain ⟨g3,cap3,eg3,hBg3,hgD3,hgw3,hc13,hc23,_,_⟩:=HN8.out.2.1.get (i:=cn) (by omega)
   rw [hll] at eg3
   simp only [Value.slice.injEq,true_and] at eg3
   obtain ⟨rfl,rfl⟩:=eg3
   unfold maxLen at hc23
   rw [hll] at hc13
   have HBg:=Hd hBg3
   have HgD:=Hd hgD3
   obtain ⟨t3,t4,t5,t6,t10,t11,t12,t13⟩:=slice_facts2 (Nat.le_trans h3 hc13) (Nat.le_trans h3 hC88)
   obtain ⟨hwt,hsm,hsl⟩:=HSubF.out
   have HSub:=Hd (HN8.out.2.1.sub (c:=cn) (m:=m+1) HcL.out (Nat.succ_le_succ (Nat.zero_le m)))
   have hne:=bw_some W8
   have hsl1:(subL L cn (m+1)).length≤1000:=by rw [hsl];omega
   have KSm:=Hd (fun (p:BW W8)=>bw_same (specl1Sum_any _ (subL L cn (m+1)) hsl1 hwt p.u (HSub.out.kept p.h)))
   have hcb:cb < W8.heap.size:=(bL HN8.out.2.2)
   have X8:=(HN8.out.1.block w.heap.size (by rw [HS2.out];omega)).trans H2.out.2.2.1
   have htb:w.heap.size < W8.heap.size:=(bL X8)
   have g1:=bw_cell (a:=⟨cb,1,none⟩) hcb (cellB (p:=1) HN8.out.2.2)
   have g2:=bw_cell (a:=⟨cb,3,none⟩) hcb (cellB (p:=3) HN8.out.2.2)
   have g4:=bw_cell (a:=⟨w.heap.size,4,none⟩) htb (cellB (p:=4) X8)
   clear X8 HKT HSz HCe hwt hsl1
   generalize (subL L cn (m+1)).sum=Y at KSm HLk hsm
   refine wp_region_quiet_below hmx (by kernel_rfl) ?_
   repeat (go_big_quiet_step (first | (go_at_call 33;refine KSm.out _)))
   refine wpQuiet_nil ?_
   intro W9 hw'
   obtain ⟨⟨Wx,hW9⟩,hw''⟩:=hw'
   subst hw''
   have HN9:=Hd (HN8.out.kept hW9)
   have hsz9:w3.heap.size≤W9.heap.size:=Nat.le_trans hsz8 hW9.size
   have HSub9:=Hd (HSub.out.kept hW9)
   clear g1 g2 g4 KSm HN8 hsz8 HSub hW9 hne hcb htb
   by_cases hl:need≤Y+t.gap * (m:Int)
   case pos =>
    have hlb:¬ (Y+t.gap * (m:Int) < need):=by omega
    have HL2:=Hd (HL.out.trans (HWn.out (by rw [HLk.out];omega)))
    clear HLk HOk HWn HWy HL hl t3 t4 t5 t6 t10 t11 t12 t13
    go_wp2
    go_roundw
    case rel=>exact ⟨k+1,by go_num,by omega,by rw [HL2.out];exact HN9.out.2.1,HN9.out.1,hsz9⟩
    case measure=>simp [intOf];omega
   have hlb:Y+t.gap * (m:Int) < need:=by omega
   have hlk:0 < lackV L cn (m+1) t.gap need:=by rw [HLk.out];omega
   have HL2:=Hd (HL.out.trans (HWy.out (by omega)))
   have hok:=HOk.out hlk
   have KSh:=Hd (l4Share_any (lackV L cn (m+1) t.gap need) (.slice (some ⟨g3,cn,none⟩) (m+1) (c3 - cn)) (subL L cn (m+1)) hok (by rw [hsl];omega) W9 HSub9.out)
   have HSB:=Hd (fun k hk=>shareL_small (t:=lackV L cn (m+1) t.gap need) (l:=subL L cn (m+1)) k hk)
   have hshl:=shareL_len hok
   rw [hsl] at hshl
   rw [HLk.out] at KSh HL2 HSB hshl
   clear hok hlk HOk HWn HWy HL HLk hl
   generalize shareL (need - (Y+t.gap * (m:Int))) (subL L cn (m+1))=sh at KSh HL2 HSB hshl
   obtain ⟨q0,q1,q2,q3,q4⟩:=fiveO HN9.out.2.2
   have hcb:=(bL HN9.out.2.2)
   go_wp2_with fail
   refine KSh.out.mono ?_
   rintro e w10 ⟨v10,rfl,hr10,hb10⟩
   obtain ⟨a10,c10,rfl⟩:=hr10.form
   rw [hshl] at hr10 ⊢
   have HN10:=Hd (HN9.out.kept hb10)
   have HS10:=Hd hr10
   have hz9:w3.heap.size≤W9.heap.size:=hsz9
   have hz10:W9.heap.size≤w10.heap.size:=hb10.size
   clear hr10 hb10 KSh HN9 hsz9 HSub9 q0 q1 q2 q3 q4 hcb t3 t4 t5 t6 t10 t11 t12 t13
   go_wp2_with fail
   go_loopw [16] (fun s W=>∃ j:Nat,s=.int .i64 j∧j≤m+1∧Hid (NdWfalse W2 w3.heap.size (.slice (some ⟨g3,0,none⟩) C' c3) (addTo L cn sh j) cb (.cells #[.int .i64 (rn:Int),.int .i64 (cn:Int),.int .i64 x.rows,.int .i64 ((m:Int)+1),.int .i64 (jn:Int)] 49) W)∧Hid (RowI W W9.heap.size w10.heap.size (.slice a10 (m+1) c10) sh)∧w10.heap.size≤W.heap.size) (fun s _=>m+1 - (intOf s).toNat)
   case atStart=>exact ⟨0,rfl,Nat.zero_le _,HN10,HS10,Nat.le_refl _⟩
   case round=>as_aux_lemma =>
    clear HN10 HS10
    obtain ⟨j,rfl,hj,HN,HS,hszj⟩:=hrel
    by_cases hjm:j < m+1
    case neg =>
     obtain rfl:j=m+1:=by omega
     go_wp2
     go_roundw
     case rel=>exact ⟨k+1,by go_num,by omega,by rw [HL2.out];exact HN.out.2.1,HN.out.1,by omega⟩
     case measure=>simp [intOf];omega
    obtain ⟨gs,cs,es,hBs,hDs,hgsw,hcs1,hcs2,hsx,_⟩:=HS.out.get (i:=j) (by omega)
    simp only [Value.slice.injEq,hshl,true_and] at es
    obtain ⟨rfl,rfl⟩:=es
    obtain ⟨g4,c4,ex4,_,_,hgw4,_,_,hxx,_⟩:=HN.out.2.1.get (i:=cn+j) (by rw [addTo_len];omega)
    rw [addTo_len,hll] at ex4
    simp only [Value.slice.injEq,Option.some.injEq,Addr.mk.injEq,and_true,true_and] at ex4
    have eg4:=ex4.1
    clear ex4
    subst eg4
    rw [addTo_out L cn sh (i:=cn+j) j (fun i hi=>by omega)] at hxx
    have hbx:0≤L.getD (cn+j) 0∧L.getD (cn+j) 0≤50000:=by have:=hub (cn+j) (by omega);omega
    have hbs:=HSB.out j (by omega)
    have v1:(j:Int) < (m:Int)+1:=by omega
    have v2:(j:Int) < ((m+1:Nat):Int):=by omega
    have HN2:Hid (addTo L cn sh (j+1)=(addTo L cn sh j).set (cn+j) (L.getD (cn+j) 0+sh.getD j 0)):=rfl
    have HLj:Hid (cn+j < (addTo L cn sh j).length):=by rw [Hid,addTo_len];omega
    have HMe:Hid (m+1 - (j+1) < m+1 - j):=by rw [Hid];omega
    have HGo:Hid (W2.heap.size≤g3):=HBg.out
    have HCb:Hid (cb ≠ g3):=by rw [Hid];have h8:=HgD.out;have h9:=HCz.out;omega
    have HSs:Hid (g3 < W9.heap.size):=by rw [Hid];have:=HgD.out;omega
    have HSet:=Hd (fun W (h:Below wr.heap.size wr W)=>(HN.out.kept h).2.1.set (i:=cn+j) HLj.out (L.getD (cn+j) 0+sh.getD j 0))
    rw [← HN2.out] at HSet
    generalize L.getD (cn+j) 0=y at hxx hbx HSet
    generalize sh.getD j 0=q at hsx hbs HSet
    obtain ⟨u1,u2,u3,u4,u5⟩:=idx_facts (cn:=cn) (j:=j) (C:=C') (by omega) hC88
    have hcbj:=(bL HN.out.2.2)
    have hne:=bw_some wr
    have r1:=bw_cell (a:=⟨cb,1,none⟩) hcbj (cellB (p:=1) HN.out.2.2)
    have r2:=bw_cell (a:=⟨g3,cn+j,none⟩) hgw4 hxx
    have r3:=bw_cell (a:=⟨gs,j,none⟩) hgsw hsx
    unfold maxLen at hcs2
    have hc13':C'≤c3:=hc13
    have hsum:IntKind.i64.wrap (y+q)=y+q:=kind_small (by omega)
    have hsum2:wrap64 (y+q)=y+q:=W_small (by omega)
    clear HN2 hsx hxx hub hsm hG hgp hp0 hp30 hlb
    go_upto_region 19 with fail
    refine wp_region_last 18 hmx (by rfl) (by rfl) (by kernel_rfl) (by kernel_rfl) ?_
    simp only [List.take_succ_cons,List.take_zero]
    repeat (go_big_quiet_step (fail))
    refine wpQuiet_nil ?_
    intro W5 hw'
    obtain ⟨⟨Wx,hW5⟩,hw''⟩:=hw'
    subst hw''
    have HR5:=Hd (HSet.out _ hW5)
    have HN5:=Hd (HN.out.kept hW5)
    have HS5:=Hd (HS.out.kept (fun j h0 _ _=>hW5.block j h0))
    have hsz5:w10.heap.size≤W5.heap.size:=Nat.le_trans hszj hW5.size
    obtain ⟨g5,c5,ex5,_,_,hgw5,_,_,hx5,hf5⟩:=HN5.out.2.1.get (i:=cn+j) HLj.out
    simp only [Value.slice.injEq,Option.some.injEq,Addr.mk.injEq,and_true] at ex5
    have eg5:=ex5.1
    clear ex5
    subst eg5
    clear r1 r2 r3 HSet HN HS hW5 hne hszj
    have HN6:Hid (NdWfalse W2 w3.heap.size (.slice (some ⟨g3,0,none⟩) C' c3) (addTo L cn sh (j+1)) cb (.cells #[.int .i64 (rn:Int),.int .i64 (cn:Int),.int .i64 x.rows,.int .i64 ((m:Int)+1),.int .i64 (jn:Int)] 49) (W5.setCell ⟨g3,cn+j,none⟩ (.int .i64 (y+q)))):=⟨k_set HN5.out.1 (p:=⟨g3,cn+j,none⟩) HGo.out _,HR5.out,(Below.heap_setCell _ _ _ _ HCb.out).trans HN5.out.2.2⟩
    have HS6:=Hd (HS5.out.kept (w':=W5.setCell ⟨g3,cn+j,none⟩ (.int .i64 (y+q))) (fun i _ h1 _=>Below.heap_setCell _ _ _ _ (fun e=>by have e':i=g3:=e;subst e';exact absurd h1 (Nat.not_le.2 HSs.out))))
    have HZ6:Hid (w10.heap.size≤(W5.setCell ⟨g3,cn+j,none⟩ (.int .i64 (y+q))).heap.size):=by rw [Hid,sizeSet];exact hsz5
    have HJ:Hid (j+1≤m+1):=hjm
    clear HN5 HR5 HS5 hsz5
    rw [if_pos (by rfl)]
    go_simp
    clear u1 u2 u3 u4 u5 hsum hsum2
    go_wp2
    go_roundw
    case rel=>exact ⟨j+1,by go_num,HJ.out,HN6,HS6,HZ6.out⟩
    case measure=>simp [intOf];omega
end Go.Proofs.YtggmjiddadjilaeGreat
