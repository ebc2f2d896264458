/-
  PROVED HERE: what the laws' own heldTblColS, heldTblCellS, heldTblRowS and heldTblTable answer of a table that was marked: the number behind the last mark; nothing that was in memory is turned. Also: what the laws' own heldTblColS, heldTblRowS and heldTblTable answer of a table that was marked: the number behind the last mark; nothing that was in memory is turned. Also: a table that is owned, behind a write into one place of one of its cells. Also: a table behind a cell taken out of a row, as a list; a row's slice of cells another one, in memory.
-/
import Derived.Test.YtggmjiddadjilaoD7
import Derived.Test.YtggmjiddadjilaoD6
namespace Go.Proofs.Ytggmjiddadjilao
open Go.RowKit

theorem own_cells {w:World} {B n k0:Nat} {u:Value} (h:OwnC w B u (mkCs n k0)):∃ a cap,u=.slice a n cap∧n≤maxLen∧∀ i,i < n→∃ g,a=some ⟨g,0,none⟩∧n≤cap∧cap≤maxLen∧g < w.heap.size∧CellIs w g (i * 11) (mkC (k0+11 * i)):=by
 have hl:=mkCs_len n k0
 rcases h.2 with ⟨rfl,e⟩ | ⟨g,cap,cur,rfl,hg,hc,a1,a2,a3,a4⟩
 ·rw [hl] at e
  subst e
  exact ⟨none,0,rfl,Nat.zero_le _,fun i hi=>absurd hi (Nat.not_lt_zero _)⟩
 ·rw [hl] at a1 a4
  refine ⟨some ⟨g,0,none⟩,cap,by rw [hl],Nat.le_trans a1 a2,fun i hi=>⟨g,rfl,a1,a2,(Array.getElem?_eq_some_iff.1 hc).1,?_⟩⟩
  have hx:∀ j,j < 11→w.cell? ⟨g,i * 11+j,none⟩=(cellVs (mkC (k0+11 * i)))[j]?:=fun j hj=>by
   have hil:i < (mkCs n k0).length:=by rw [hl];exact hi
   have e:=flat_get cellVs 11 (fun _=>rfl) (mkCs n k0) i hil j hj
   rw [← a4,List.getElem?_take_of_lt (by omega),Array.getElem?_toList,← getD_get dC hil,mkCs_get hi] at e
   rw [cellB hc,e]
  exact ⟨hx 0 (by omega),hx 1 (by omega),hx 2 (by omega),hx 3 (by omega),hx 4 (by omega),hx 5 (by omega),hx 6 (by omega),hx 7 (by omega),hx 8 (by omega),hx 9 (by omega),hx 10 (by omega)⟩
theorem CellIs.below {w w':World} {g o:Nat} {x:C} (h:CellIs w g o x) (hg:g < w.heap.size) (k:Below w.heap.size w w'):CellIs w' g o x:=by
 unfold CellIs at h ⊢
 have e:∀ p,w'.cell? ⟨g,p,none⟩=w.cell? ⟨g,p,none⟩:=fun p=>k.cell (p:=⟨g,p,none⟩) hg
 simp only [e]
 exact h

set_option maxRecDepth 100000 in
set_option maxHeartbeats 2000000 in
theorem heldTblCellS_any (u:Value) (n k0:Nat) (h0:0 < k0) (hb:k0+11 * n≤99999990) (B:Nat) (w:World) (h:OwnC w B u (mkCs n k0)) :
  Calls Try.prog 93 #[u,.int .i64 k0] w fun e w'=>e=.returned (.int .i64 ((k0+11 * n:Nat):Int))∧Below w.heap.size w w':=by
 obtain ⟨a,cap,rfl,hlen,hX⟩:=own_cells h
 have X:=Hid.intro hX
 have hmx:Try.prog.follows .mixedOrders=true:=by kernel_rfl
 clear h hX
 unfold maxLen at hlen
 go_enter Try.func93,Try.ntmps93
 go_wp2_with fail
 go_loopw [1,5] (fun q i W=>∃ (k b:Nat),k≤n∧i=.int .i64 k∧q=.int .i64 b∧Hid (b=k0+11 * k)∧Hid (Below w.heap.size w W)) (fun _ i _=>n - (intOf i).toNat)
 case atStart=>exact ⟨0,k0,Nat.zero_le _,rfl,rfl,rfl,Below.refl _ _⟩
 case round =>
  obtain ⟨k,b,hk,rfl,rfl,HE,HB⟩:=hrel
  by_cases hlt:k < n
  ·obtain ⟨g,rfl,h1,h2,hgl,hI⟩:=X.out k hlt
   have hbb:0 < b∧b≤99999979:=by rw [HE.out];omega
   rw [← HE.out] at hI
   have hgw:g < wr.heap.size:=Nat.lt_of_lt_of_le hgl HB.out.size
   have HI:=Hid.intro (hI.below hgl HB.out)
   have HM:=Hid.intro (markText_big b hbb.1 (by omega))
   have HE2:Hid (b+11=k0+11 * (k+1)):=by show _=_;rw [HE.out];omega
   have q0:=HI.out.1
   unfold maxLen at h2
   have m0:=bw_cell (a:=⟨g,k * 11,none⟩) hgw q0
   have hne:=bw_some wr
   have KM:=Hid.intro (fun (p:BW wr)=>bw_of (HM.out p.u))
   have hss:(mkC b).s=mt b:=rfl
   rw [hss] at m0 q0
   clear HE hI HM hss q0
   generalize hmt:mt b=y at m0 KM
   clear hmt
   go_upto_region 4 with fail
   refine wp_region_quiet_below hmx (by kernel_rfl) ?_
   repeat (go_big_quiet_step (first | (go_at_call 42;refine KM.out _)))
   refine wpQuiet_nil ?_
   intro W9 hw'
   obtain ⟨⟨Wx,hW9⟩,hw''⟩:=hw'
   subst hw''
   have HB9:=Hid.intro (k_trans HB.out hW9)
   obtain ⟨_,l1,l2,l3,l4,l5,l6,l7,l8,l9,l10⟩:=HI.out.below hgw hW9
   replace l1:W9.cell? ⟨g,k * 11+1,none⟩=some (.int .i64 ((b:Int)+1)):=l1
   replace l2:W9.cell? ⟨g,k * 11+2,none⟩=some (.int .i64 ((b:Int)+2)):=l2
   replace l3:W9.cell? ⟨g,k * 11+3,none⟩=some (.int .i64 ((b:Int)+3)):=l3
   replace l4:W9.cell? ⟨g,k * 11+4,none⟩=some (.int .i64 ((b:Int)+4)):=l4
   replace l5:W9.cell? ⟨g,k * 11+5,none⟩=some (.int .i64 ((b:Int)+5)):=l5
   replace l6:W9.cell? ⟨g,k * 11+6,none⟩=some (.int .i64 ((b:Int)+6)):=l6
   replace l7:W9.cell? ⟨g,k * 11+7,none⟩=some (.int .i64 ((b:Int)+7)):=l7
   replace l8:W9.cell? ⟨g,k * 11+8,none⟩=some (.int .i64 ((b:Int)+8)):=l8
   replace l9:W9.cell? ⟨g,k * 11+9,none⟩=some (.int .i64 ((b:Int)+9)):=l9
   replace l10:W9.cell? ⟨g,k * 11+10,none⟩=some (.int .i64 ((b:Int)+10)):=l10
   clear m0 hne hW9 KM HI HB
   have ne1:(((b:Int)+1) != ((b:Int)+1))=false:=by simp
   have ne2:(((b:Int)+2) != ((b:Int)+2))=false:=by simp
   have ne3:(((b:Int)+3) != ((b:Int)+3))=false:=by simp
   have ne4:(((b:Int)+4) != ((b:Int)+4))=false:=by simp
   have ne5:(((b:Int)+5) != ((b:Int)+5))=false:=by simp
   have ne6:(((b:Int)+6) != ((b:Int)+6))=false:=by simp
   have ne7:(((b:Int)+7) != ((b:Int)+7))=false:=by simp
   have ne8:(((b:Int)+8) != ((b:Int)+8))=false:=by simp
   have ne9:(((b:Int)+9) != ((b:Int)+9))=false:=by simp
   have ne10:(((b:Int)+10) != ((b:Int)+10))=false:=by simp
   go_wp2
   go_roundw
   case rel=>exact ⟨k+1,b+11,by omega,by go_num,by go_num,HE2,HB9⟩
   case measure=>simp [intOf];omega
  ·obtain rfl:k=n:=by omega
   have HE2:Hid ((b:Int)=((k0+11 * k:Nat):Int)):=by show _=_;rw [HE.out]
   clear HE
   go_wp2
   go_ret
   exact ⟨congrArg (fun x:Int=>Ending.returned (Value.int .i64 x)) HE2.out,HB.out⟩
end Go.Proofs.Ytggmjiddadjilao
namespace Go.Proofs.Ytggmjiddadjilao
open Go.RowKit

theorem own_colsH {w:World} {B n k0:Nat} {u:Value} (h:OwnCol w B u (mkCols n k0)):∃ a cap,u=.slice a n cap∧n≤maxLen∧∀ i,i < n→∃ g,a=some ⟨g,0,none⟩∧n≤cap∧cap≤maxLen∧g < w.heap.size∧w.cell? ⟨g,i * 2,none⟩=some (.int .i64 ((k0+2 * i:Nat):Int))∧w.cell? ⟨g,i * 2+1,none⟩=some (.int .i64 (((k0+2 * i:Nat):Int)+1)):=by
 have hl:=mkCols_len n k0
 rcases h.2 with ⟨rfl,e⟩ | ⟨g,cap,cur,rfl,hg,hc,a1,a2,a3,a4⟩
 ·rw [hl] at e
  subst e
  exact ⟨none,0,rfl,Nat.zero_le _,fun i hi=>absurd hi (Nat.not_lt_zero _)⟩
 ·rw [hl] at a1 a4
  refine ⟨some ⟨g,0,none⟩,cap,by rw [hl],Nat.le_trans a1 a2,fun i hi=>⟨g,rfl,a1,a2,(Array.getElem?_eq_some_iff.1 hc).1,?_⟩⟩
  have hx:∀ j,j < 2→w.cell? ⟨g,i * 2+j,none⟩=(colVs (mkCol (k0+2 * i)))[j]?:=fun j hj=>by
   have hil:i < (mkCols n k0).length:=by rw [hl];exact hi
   have e:=flat_get colVs 2 (fun _=>rfl) (mkCols n k0) i hil j hj
   rw [← a4,List.getElem?_take_of_lt (by omega),Array.getElem?_toList,← getD_get (0,0) hil,mkCols_get hi] at e
   rw [cellB hc,e]
  exact ⟨hx 0 (by omega),hx 1 (by omega)⟩

set_option maxRecDepth 100000 in
set_option maxHeartbeats 2000000 in
theorem heldTblColS_any (u:Value) (n k0:Nat) (hb:k0+2 * n≤99999990) (B:Nat) (w:World) (h:OwnCol w B u (mkCols n k0)) :
  Calls Try.prog 63 #[u,.int .i64 k0] w fun e w'=>e=.returned (.int .i64 ((k0+2 * n:Nat):Int))∧w'=w:=by
 obtain ⟨a,cap,rfl,hlen,hX⟩:=own_colsH h
 have X:=Hid.intro hX
 clear h hX
 unfold maxLen at hlen
 go_enter Try.func63,Try.ntmps63
 go_wp2_with fail
 go_loopw [1,5] (fun q i W=>∃ (k b:Nat),k≤n∧i=.int .i64 k∧q=.int .i64 b∧Hid (b=k0+2 * k)∧W=w) (fun _ i _=>n - (intOf i).toNat)
 case atStart=>exact ⟨0,k0,Nat.zero_le _,rfl,rfl,rfl,rfl⟩
 case round =>
  obtain ⟨k,b,hk,rfl,rfl,HE,rfl⟩:=hrel
  by_cases hlt:k < n
  ·obtain ⟨g,rfl,h1,h2,hgl,q0,q1⟩:=X.out k hlt
   have hbb:b≤99999988:=by rw [HE.out];omega
   rw [← HE.out] at q0 q1
   have HE2:Hid (b+2=k0+2 * (k+1)):=by show _=_;rw [HE.out];omega
   unfold maxLen at h2
   have ne0:((b:Int) != (b:Int))=false:=by simp
   have ne1:(((b:Int)+1) != ((b:Int)+1))=false:=by simp
   clear HE
   go_wp2
   go_roundw
   case rel=>exact ⟨k+1,b+2,by omega,by go_num,by go_num,HE2,trivial⟩
   case measure=>simp [intOf];omega
  ·obtain rfl:k=n:=by omega
   have HE2:Hid ((b:Int)=((k0+2 * k:Nat):Int)):=by show _=_;rw [HE.out]
   clear HE
   go_wp2
   go_ret
   exact ⟨congrArg (fun x:Int=>Ending.returned (Value.int .i64 x)) HE2.out,rfl⟩

set_option maxRecDepth 100000 in
set_option maxHeartbeats 2000000 in
theorem heldTblRowS_any (v:Value) (ur:List (Value × R)) (k0:Nat) (h0:0 < k0) (hb:kAt (ur.map (·.2)) k0 ur.length≤99999990) (B:Nat) (w:World) (h:OwnR w B v (mkU ur k0 ur.length)) :
  Calls Try.prog 64 #[v,.int .i64 k0] w fun e w'=>e=.returned (.int .i64 ((kAt (ur.map (·.2)) k0 ur.length:Nat):Int))∧Below w.heap.size w w':=by
 obtain ⟨a,cap,hv,hlen⟩:=row_form h.own
 rw [mkU_len] at hv hlen
 subst hv
 have HO:=Hid.intro h
 have HbM:=Hid.intro hb
 clear h hb
 unfold maxLen at hlen
 go_enter Try.func64,Try.ntmps64
 go_wp2_with fail
 go_loopw [1,5] (fun q i W=>∃ (k b:Nat),k≤ur.length∧i=.int .i64 k∧q=.int .i64 b∧Hid (b=kAt (ur.map (·.2)) k0 k)∧Hid (Below w.heap.size w W)) (fun _ i _=>ur.length - (intOf i).toNat)
 case atStart=>exact ⟨0,k0,Nat.zero_le _,rfl,rfl,rfl,Below.refl _ _⟩
 case round =>
  obtain ⟨k,b,hk,rfl,rfl,HE,HB⟩:=hrel
  by_cases hlt:k < ur.length
  ·have hgM:=mkU_new ur k0 ur.length k hlt hlt
   have hge:ur[k]?=some ur[k]:=List.getElem?_eq_getElem hlt
   rw [getD_get dU hlt,← HE.out] at hgM
   obtain ⟨g,cap',cur,e',hc1,hc2,hgl,hgB,hcur,hsz,hx0,hx1⟩:=own_get HO.out hgM
   rw [mkU_len] at e' hc1
   simp only [Value.slice.injEq,true_and] at e'
   obtain ⟨rfl,rfl⟩:=e'
   have hC:=HO.out.cells _ (List.mem_of_getElem? hgM)
   have hkn:kAt (ur.map (·.2)) k0 (k+1)=b+11 * ur[k].2.cells.length+1:=by
    rw [kAt,map_snd_get hge,HE.out]
   have hkm:=kAt_mono (ur.map (·.2)) k0 (k+1) ur.length hlt
   have hk0:=kAt_mono (ur.map (·.2)) k0 0 k (Nat.zero_le _)
   rw [hkn] at hkm
   rw [← HE.out] at hk0
   have hb2:b+11 * ur[k].2.cells.length+1≤99999990:=Nat.le_trans hkm HbM.out
   have hb0:0 < b:=Nat.lt_of_lt_of_le h0 hk0
   have HEn:Hid (b+11 * ur[k].2.cells.length+1=kAt (ur.map (·.2)) k0 (k+1)):=hkn.symm
   have hlc:ur[k].2.cells.length≤9999999:=by omega
   have hgw:g < wr.heap.size:=Nat.lt_of_lt_of_le hgl HB.out.size
   have hCw:OwnC wr B ur[k].1 (mkCs ur[k].2.cells.length b):=⟨hC.1,hC.2.elim Or.inl (fun ⟨g,cap,cur,e,hg,hc,q⟩=>Or.inr ⟨g,cap,cur,e,hg,(HB.out.block g (Array.getElem?_eq_some_iff.1 hc).1).trans hc,q⟩)⟩
   have HM:=Hid.intro (heldTblCellS_any ur[k].1 ur[k].2.cells.length b hb0 (by omega) B wr hCw)
   have hcw:=(HB.out.block g hgl).trans hcur
   have L0:=(cellB hcw).trans hx0
   have L1:=(cellB hcw).trans hx1
   obtain ⟨pa,pcap,hpf,_⟩:=row_form hCw
   dsimp only [mkR] at L0 L1
   rw [hpf] at L0 HM
   have Hcw:=Hid.intro hcw
   clear hge hgM hkn hkm hk0 HE hC hCw hx0 hx1 hcur hpf hcw
   generalize ur[k].2.cells.length=n at HM HEn hb2 hlc L1 L0
   have hnn:(0:Int)≤(b:Int)+11 * (n:Int):=by omega
   have hn0:¬ ((b:Int)+11 * (n:Int)) < 0:=by omega
   have hdec:(((b:Int)+11 * (n:Int)) % 3 == 0)=decide ((b+11 * n) % 3=0):=by
    rw [Bool.eq_iff_iff];simp;omega
   have hdec2:decide (((b:Int)+11 * (n:Int)) % 3=0)=decide ((b+11 * n) % 3=0):=by
    rw [Bool.eq_iff_iff];simp;omega
   generalize decide ((b+11 * n) % 3=0)=bb at L1 hdec hdec2
   go_wp2_with fail
   refine HM.out.mono ?_
   rintro e w1 ⟨rfl,hb1⟩
   have L2:=(hb1.cell (p:=⟨g,k * 2+1,none⟩) hgw).trans L1
   have HB1:=Hid.intro (k_trans HB.out hb1)
   have hbx:(bb != bb)=false:=by simp
   clear L1 L0 hb1 HM HB
   go_wp2
   go_roundw
   case rel=>exact ⟨k+1,b+11 * n+1,by omega,by go_num,by go_num,HEn,HB1⟩
   case measure=>simp [intOf];omega
  ·obtain rfl:k=ur.length:=by omega
   have HE2:Hid ((b:Int)=((kAt (ur.map (·.2)) k0 ur.length:Nat):Int)):=by show _=_;rw [HE.out]
   clear HE
   go_wp2
   go_ret
   exact ⟨congrArg (fun x:Int=>Ending.returned (Value.int .i64 x)) HE2.out,HB.out⟩

set_option maxRecDepth 100000 in
set_option maxHeartbeats 2000000 in
theorem heldTblTable_any (a1 a2:Option Addr) (c1 c2:Nat) (hd ft gp:Value) (cols:List (Int × Int)) (ur:List (Value × R)) (hb:kEnd cols ur≤99999990) (B D:Nat) (w:World) (h:OwnD w B D (.slice a1 cols.length c1) (.slice a2 ur.length c2) (mkCols cols.length 1) (mkU ur (1+2 * cols.length) ur.length)) :
  Calls Try.prog 28 #[.agg #[.slice a1 cols.length c1,hd,ft,.slice a2 ur.length c2,gp],.int .i64 1] w fun e w'=>e=.returned (.int .i64 ((kEnd cols ur:Nat):Int))∧Below w.heap.size w w':=by
 have hX:=newestB w (.cells #[.slice a1 cols.length c1,hd,ft,.slice a2 ur.length c2,gp] 56)
 have hK:=k_alloc (Below.refl w.heap.size w) (.cells #[.slice a1 cols.length c1,hd,ft,.slice a2 ur.length c2,gp] 56)
 have hkm:=kAt_mono (ur.map (·.2)) (1+2 * cols.length) 0 ur.length (Nat.zero_le _)
 have hkc:1+2 * cols.length≤99999990:=Nat.le_trans hkm hb
 have HD:=Hid.intro (h.kept hK)
 have HX:=Hid.intro hX
 have HKb:=Hid.intro hK
 clear h hkm hX hK
 go_enter Try.func28,Try.ntmps28
 go_upto_region 1 with fail
 generalize w.alloc (.cells #[.slice a1 cols.length c1,hd,ft,.slice a2 ur.length c2,gp] 56)=W0 at HD HX HKb ⊢
 have z0:=cellB (p:=0) HX.out
 have z3:=cellB (p:=3) HX.out
 have HM:=Hid.intro (heldTblColS_any (.slice a1 cols.length c1) cols.length 1 (by omega) B W0 HD.out.1)
 have HM2:=Hid.intro (heldTblRowS_any (.slice a2 ur.length c2) ur (1+2 * cols.length) (by omega) hb B W0 HD.out.2.1)
 have hke:(0:Int)≤((kEnd cols ur:Nat):Int):=by omega
 have HeE:Hid (kAt (ur.map (·.2)) (1+2 * cols.length) ur.length=kEnd cols ur):=rfl
 rw [HeE.out] at HM2
 generalize hkE:kEnd cols ur=ke at HM2 hke hb
 have HkE:=Hid.intro hkE
 clear hkE
 have hk1:¬ (1+2 * (cols.length:Int)) < 0:=by omega
 have hk2:¬ (ke:Int) < 0:=by omega
 go_wp2_with fail
 refine HM.out.mono ?_
 rintro e w1 ⟨rfl,rfl⟩
 clear HM z0
 go_wp2_with fail
 refine HM2.out.mono ?_
 rintro e w2 ⟨rfl,hb2⟩
 have HB2:=Hid.intro (k_trans HKb.out hb2)
 clear HM2 z3 hb2
 go_wp2
 go_ret
 exact ⟨by rw [HkE.out];rfl,HB2.out⟩
end Go.Proofs.Ytggmjiddadjilao
namespace Go.Proofs.Ytggmjiddadjilao
open Go.RowKit

theorem OwnD.put {w W9:World} {B D:Nat} {vc vr:Value} {cols:List (Int × Int)} {ur:List (Value × R)} (h:OwnD w B D vc vr cols ur) (hb:Below w.heap.size w W9) {r a j:Nat} {p:Value × R} (hp:ur[r]?=some p) {g cap:Nat} (hpv:p.1=.slice (some ⟨g,0,none⟩) p.2.cells.length cap) (ha:a < p.2.cells.length) (hj:j < 11) {x:C} {v:Value} (hx:cellVs x=(cellVs p.2.cells[a]).set j v) :
  OwnD (W9.setCell ⟨g,a * 11+j,none⟩ v) B D vc vr cols (ur.set r (p.1,⟨p.2.cells.set a x,p.2.whole⟩)):=by
 have h9:=h.kept hb
 have hpm:p ∈ ur:=List.mem_of_getElem? hp
 have hC:=h9.2.1.cells p hpm
 rw [hpv] at hC
 have hC2:=OwnC.put hC ha hj hx
 have hG:W9.grownBy (W9.setCell ⟨g,a * 11+j,none⟩ v) p.1.ownBlock:=by rw [hpv];exact grown_set (grown_refl _ _) rfl _
 have hR:=h9.2.1.upd hp (r:=⟨p.2.cells.set a x,p.2.whole⟩) rfl (by rw [hpv];simpa [OwnC] using hC2) hG
 refine ⟨?_,hR,h.2.2.1,h.2.2.2.1,fun q hq b e=>?_⟩
 ·have hne:=row_ne h9.1 (h9.2.1.cells p hpm) (by decide)
  exact row_off h9.1 (Off.grown (b1:=none) (n:=0) hG) (Nat.zero_le _) (by rcases hb:vc.ownBlock with _ | b;exact .inl rfl;exact .inr (by simp)) hne
 ·rcases List.mem_or_eq_of_mem_set hq with hm | rfl
  ·exact h.2.2.2.2 q hm b e
  ·exact h.2.2.2.2 p hpm b e
/-- it stays where one block that is not its own is turned -/
theorem OwnD.other {W W':World} {B D n:Nat} {vc vr:Value} {cols:List (Int × Int)} {ur:List (Value × R)} (h:OwnD W B D vc vr cols ur) (hn:D≤n) (hk:∀ k,k ≠ n→W'.heap[k]?=W.heap[k]?):OwnD W' B D vc vr cols ur:=by
 obtain ⟨h1,h2,h3,h4,h5⟩:=h
 have key:∀ {e:TypeId} {sz:Nat} {v:Value} {m:Nat} {xs:List Value},W.ownsRow B e sz v m xs→(∀ b,v.ownBlock=some b→b < D)→W'.ownsRow B e sz v m xs:=fun h hv=>by
  refine ⟨h.1,h.2.elim Or.inl (fun ⟨g,cap,cur,e,hg,hc,q⟩=>Or.inr ⟨g,cap,cur,e,hg,?_,q⟩)⟩
  have hgD:g < D:=hv g (by rw [e];rfl)
  exact (hk g (by omega)).trans hc
 exact ⟨key h1 h3,⟨key h2.own h4,fun p hp=>key (h2.cells p hp) (h5 p hp),h2.apart⟩,h3,h4,h5⟩
theorem below_other {w W W':World} (h:Below w.heap.size w W) {n:Nat} (hn:w.heap.size≤n) (hk:∀ k,k ≠ n→W'.heap[k]?=W.heap[k]?) (hs:W'.heap.size=W.heap.size) (ho:W'.os=W.os) (ht:W'.tape=W.tape) (hu:W'.output=W.output):Below w.heap.size w W' :=
 ⟨ho.trans h.os,ht.trans h.tape,hu.trans h.output,by rw [hs];exact h.size,fun k h1=>(hk k (by omega)).trans (h.block k h1)⟩
theorem map_set_snd (ur:List (Value × R)) (r:Nat) (q:Value × R):(ur.set r q).map (·.2)=(ur.map (·.2)).set r q.2:=by simp
theorem own_lt {w:World} {B D:Nat} {vc vr:Value} {cols:List (Int × Int)} {ur:List (Value × R)} (h:OwnD w B D vc vr cols ur) {t:T} (hc:t.cols=cols) (hr:ur.map (·.2)=t.rows):OwnT w B vc vr t:=⟨ur,hr,by rw [hc];exact h.1,h.2.1⟩
end Go.Proofs.Ytggmjiddadjilao
namespace Go.Proofs.Ytggmjiddadjilao
open Go.RowKit

/-- a table behind a cell taken out -/
def edTake (t:T) (row at':Int):T × Bool :=
 if tblB t=true then (if hasB t row at'=true then (setRow t row.toNat ((t.rows.getD row.toNat dR).cells.eraseIdx at'.toNat),true) else (t,false)) else (zT,false)
/-- one row of a table that is owned: its slice of cells another one -/
theorem OwnR.slice {w1:World} {base:Nat} {v:Value} {ur:List (Value × R)} {i g cap:Nat} (hv:v=.slice (some ⟨g,0,none⟩) ur.length cap) {p:Value × R} (hi:ur[i]?=some p) {u:Value} {r:R} (hw:r.whole=p.2.whole)
  (hR:w1.ownsRow base 88 2 v ur.length (ur.flatMap rowVs)) (hC:∀ j,j ≠ i→∀ q,ur[j]?=some q→OwnC w1 base q.1 q.2.cells) (hc:OwnC w1 base u r.cells)
  (ha:ur.Pairwise fun p q=>p.1.ownBlock=none∨p.1.ownBlock ≠ q.1.ownBlock) (hu:∀ j,j ≠ i→∀ q,ur[j]?=some q→q.1.ownBlock=none∨q.1.ownBlock ≠ u.ownBlock) :
  OwnR (w1.setCell ⟨g,i * 2,none⟩ u) base v (ur.set i (u,r)):=by
 have hil:i < ur.length:=(List.getElem?_eq_some_iff.1 hi).1
 have ep:ur[i]=p:=by rw [List.getElem?_eq_getElem hil] at hi;exact Option.some.inj hi
 have hvg:v.ownBlock=some g:=by rw [hv];rfl
 have hS:Off 0 (some g) none w1 (w1.setCell ⟨g,i * 2,none⟩ u):=Off.set w1 ⟨g,i * 2,none⟩ rfl _
 have hnn:∀ u:Value,u.ownBlock=none∨u.ownBlock ≠ none:=fun u=>by rcases hb:u.ownBlock with _ | b;exact .inl rfl;exact .inr (by simp)
 have hcw:∀ {x:Value} {cs:List C},OwnC w1 base x cs→OwnC (w1.setCell ⟨g,i * 2,none⟩ u) base x cs:=fun h=>by
  refine row_off h hS (Nat.zero_le _) ?_ (hnn _)
  rcases row_ne h hR (by decide) with e | e
  ·exact .inl e
  ·exact .inr (by rw [← hvg];exact e)
 refine ⟨?_,fun q hq=>?_,?_⟩
 ·rcases hR.2 with ⟨e,_⟩ | ⟨g',cap',cur,e,hg',hcur,a1,a2,a3,a4⟩
  ·rw [hv] at e;simp at e
  ·rw [hv] at e
   simp only [Value.slice.injEq,Option.some.injEq,Addr.mk.injEq,and_true,true_and] at e
   obtain ⟨rfl,rfl⟩:=e
   refine ⟨by rw [flat_len rowVs 2 (fun _=>rfl)],.inr ⟨g,cap,cur.setIfInBounds (i * 2) u,by rw [List.length_set];exact hv,hg',setB hcur _,by rw [List.length_set];exact a1,a2,by rw [Array.size_setIfInBounds];exact a3,?_⟩⟩
   refine flat_take rowVs 2 (fun _=>rfl) (ur.set i (u,r)) (cur.setIfInBounds (i * 2) u) (by rw [List.length_set,Array.size_setIfInBounds,a3];omega) (fun j hj0 m hm=>?_)
   have hj:j < ur.length:=by rw [List.length_set] at hj0;exact hj0
   have hold:cur[j * 2+m]?=(rowVs ur[j])[m]?:=by
    have e:=flat_get rowVs 2 (fun _=>rfl) ur j hj m hm
    rw [← a4,List.getElem?_take_of_lt (by omega),Array.getElem?_toList] at e
    exact e
   by_cases hji:j=i
   ·subst hji
    rw [List.getElem_set_self]
    match m,hm with
    | 0,_ =>
     rw [Nat.add_zero,Array.getElem?_setIfInBounds_self_of_lt (by rw [a3];omega)]
     rfl
    | 1,_ =>
     rw [Array.getElem?_setIfInBounds_ne (by omega),hold,ep]
     show some (Value.bool p.2.whole)=some (Value.bool r.whole)
     rw [hw]
   ·rw [List.getElem_set_ne (by omega),Array.getElem?_setIfInBounds_ne (by omega)]
    exact hold
 ·obtain ⟨j,hj0,rfl⟩:=List.mem_iff_getElem.1 hq
  have hj:j < ur.length:=by rw [List.length_set] at hj0;exact hj0
  by_cases hji:j=i
  ·subst hji
   rw [List.getElem_set_self]
   exact hcw hc
  ·rw [List.getElem_set_ne (by omega)]
   exact hcw (hC j hji _ (List.getElem?_eq_getElem hj))
 ·rw [List.pairwise_iff_getElem] at ha ⊢
  intro x y hx0 hy0 hxy
  have hx:x < ur.length:=by rw [List.length_set] at hx0;exact hx0
  have hy:y < ur.length:=by rw [List.length_set] at hy0;exact hy0
  by_cases hxi:x=i
  ·subst hxi
   rw [List.getElem_set_self,List.getElem_set_ne (by omega)]
   rcases hb:u.ownBlock with _ | b
   ·exact .inl rfl
   ·refine .inr (fun e=>?_)
    rcases hu y (by omega) _ (List.getElem?_eq_getElem hy) with h1 | h1
    ·rw [h1] at e;cases e
    ·exact h1 (e.symm.trans hb.symm)
  ·by_cases hyi:y=i
   ·subst hyi
    rw [List.getElem_set_self,List.getElem_set_ne (by omega)]
    exact hu x (by omega) _ (List.getElem?_eq_getElem hx)
   ·rw [List.getElem_set_ne (by omega),List.getElem_set_ne (by omega)]
    exact ha x y hx hy hxy
/-- the same block, its cells others -/
theorem OwnD.take {w W9:World} {B D:Nat} {vc vr:Value} {cols:List (Int × Int)} {ur:List (Value × R)} (h:OwnD w B D vc vr cols ur) {r g cg:Nat} (hv:vr=.slice (some ⟨g,0,none⟩) ur.length cg) {p:Value × R} (hp:ur[r]?=some p) {b:Nat} (hpb:p.1.ownBlock=some b) (hG:w.grownBy W9 (some b)) {u:Value} {cs:List C} (hub:u.ownBlock=some b) (hc:OwnC W9 B u cs) :
  OwnD (W9.setCell ⟨g,r * 2,none⟩ u) B D vc vr cols (ur.set r (u,⟨cs,p.2.whole⟩)):=by
 have hpm:p ∈ ur:=List.mem_of_getElem? hp
 have hrl:r < ur.length:=(List.getElem?_eq_some_iff.1 hp).1
 have ep:ur[r]=p:=by rw [List.getElem?_eq_getElem hrl] at hp;exact Option.some.inj hp
 have hnn:∀ u:Value,u.ownBlock=none∨u.ownBlock ≠ none:=fun u=>by rcases hb:u.ownBlock with _ | b;exact .inl rfl;exact .inr (by simp)
 have hG':w.grownBy W9 p.1.ownBlock:=by rw [hpb];exact hG
 have K1:Off 0 none p.1.ownBlock w W9:=Off.grown hG'
 have hR:=row_off h.2.1.own K1 (Nat.zero_le _) (hnn vr) (row_ne h.2.1.own (h.2.1.cells p hpm) (by decide))
 have hap:∀ j,j ≠ r→∀ q,ur[j]?=some q→q.1.ownBlock=none∨q.1.ownBlock ≠ p.1.ownBlock:=fun j hj q hq=>by
  have hjl:j < ur.length:=(List.getElem?_eq_some_iff.1 hq).1
  have eq:ur[j]=q:=by rw [List.getElem?_eq_getElem hjl] at hq;exact Option.some.inj hq
  have hpw:=List.pairwise_iff_getElem.1 h.2.1.apart
  rcases Nat.lt_or_gt_of_ne hj with hl | hl
  ·rw [← ep,← eq];exact hpw j r hjl hrl hl
  ·have:=hpw r j hrl hjl hl
   rw [ep,eq] at this
   rcases hb:q.1.ownBlock with _ | b'
   ·exact .inl rfl
   ·refine .inr (fun e=>?_)
    rcases this with e1 | e1
    ·rw [e1] at e;cases e
    ·exact e1 (e.symm.trans hb.symm)
 have hC:∀ j,j ≠ r→∀ q,ur[j]?=some q→OwnC W9 B q.1 q.2.cells:=fun j hj q hq=>row_off (h.2.1.cells q (List.mem_of_getElem? hq)) K1 (Nat.zero_le _) (hnn _) (hap j hj q hq)
 have hO:=OwnR.slice (r:=⟨cs,p.2.whole⟩) hv hp rfl hR hC hc h.2.1.apart (fun j hj q hq=>by rw [hub,← hpb];exact hap j hj q hq)
 have hgB:vr.ownBlock=some g:=by rw [hv];rfl
 refine ⟨?_,hO,h.2.2.1,h.2.2.2.1,fun q hq b' e=>?_⟩
 ·have c1:=row_off h.1 K1 (Nat.zero_le _) (hnn vc) (row_ne h.1 (h.2.1.cells p hpm) (by decide))
  have hS:Off 0 (some g) none W9 (W9.setCell ⟨g,r * 2,none⟩ u):=Off.set W9 ⟨g,r * 2,none⟩ rfl _
  refine row_off c1 hS (Nat.zero_le _) ?_ (hnn _)
  rcases row_ne c1 hR (by decide) with e | e
  ·exact .inl e
  ·exact .inr (by rw [← hgB];exact e)
 ·rcases List.mem_or_eq_of_mem_set hq with hm | rfl
  ·exact h.2.2.2.2 q hm b' e
  ·rw [hub] at e
   exact h.2.2.2.2 p hpm b' (by rw [hpb];exact e)
end Go.Proofs.Ytggmjiddadjilao
