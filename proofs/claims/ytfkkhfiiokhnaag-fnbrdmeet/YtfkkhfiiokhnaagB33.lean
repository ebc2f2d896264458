/-
  PROVED HERE: the law's own pwMeets says yes of the border that is shown between two cells of a drawn table. Also: the law FnBrdMeet returns true at every code that lies in memory.
-/
import Derived.Test.YtfkkhfiiokhnaagB32
import Derived.Test.YtfkkhfiiokhnaagB27
import Derived.Test.YtfkkhfiiokhnaagB30
import Derived.Test.YtfkkhfiiokhnaagB24
import Derived.Test.YtfkkhfiiokhnaagB31
import Derived.Test.YtfkkhfiiokhnaagB22
import Derived.Test.YtfkkhfiiokhnaagB13
import Derived.Test.YtfkkhfiiokhnaagB25
namespace Go.Proofs.Ytfkkhfiiokhnaag
open Go.RowKit Go.BigFrame
theorem pwMeets_beside (ac ar ag : Option Addr) (cc cr cg : Nat) (t : T) (hD : Drawn t) (a b : Int) (x : Fr) (hx : x = meetF ⟨(cellN t a).a2, (cellN t a).b2, a⟩ ⟨(cellN t b).a4, (cellN t b).b4, b⟩) (w : World) {z zg : Nat} (hW : RowsAt w z (.slice ar t.rows.length cr) t.rows) (hG : GsAt w zg (.slice ag (gOf t).cells.length cg) (gOf t).cells)
    (ha : a = -1 ∨ ∃ k : Nat, a = k ∧ k < (gOf t).cells.length) (hb : b = -1 ∨ ∃ k : Nat, b = k ∧ k < (gOf t).cells.length) :
    Calls Try.prog 30 #[.agg #[.slice ac t.cols.length cc, .int .i64 t.head, .int .i64 t.foot, .slice ar t.rows.length cr, .int .i64 t.gap], .agg #[.int .i64 (gOf t).rows, .int .i64 (gOf t).cols, .slice ag (gOf t).cells.length cg], .int .i64 a, .int .i64 b, .agg #[.int .i64 x.s, .int .i64 x.w, .int .i64 x.c], .bool false] w fun e w' => e = .returned (.bool true) ∧ Below w.heap.size w w' := by
  rcases ha with rfl | ⟨k, rfl, hk⟩
  · rcases hb with rfl | ⟨j, rfl, hj⟩
    · exact pwMeets_beside_nn ac ar ag cc cr cg t hD x hx w hW hG
    · exact pwMeets_beside_nj ac ar ag cc cr cg t hD j hj x hx w hW hG
  · rcases hb with rfl | ⟨j, rfl, hj⟩
    · exact pwMeets_beside_kn ac ar ag cc cr cg t hD k hk x hx w hW hG
    · exact pwMeets_beside_kj ac ar ag cc cr cg t hD k hk j hj x hx w hW hG
end Go.Proofs.Ytfkkhfiiokhnaag
namespace Go.Proofs.Ytfkkhfiiokhnaag
open Go.RowKit Go.BigFrame

/-- the table in its box, and two borders in theirs -/
structure SX (w : World) (tb xb yb : Nat) (ac ar : Option Addr) (cc cr : Nat) (t : T) (x y : Fr) (W : World) : Prop where
  s : St w tb ac ar cc cr t W
  x : W.heap[xb]? = some (.cells #[.int .i64 x.s, .int .i64 x.w, .int .i64 x.c] 42)
  y : W.heap[yb]? = some (.cells #[.int .i64 y.s, .int .i64 y.w, .int .i64 y.c] 42)
theorem SX.kept {w W W' : World} {tb xb yb : Nat} {ac ar : Option Addr} {cc cr : Nat} {t : T} {x y : Fr} (h : SX w tb xb yb ac ar cc cr t x y W) (hb : Below W.heap.size W W') : SX w tb xb yb ac ar cc cr t x y W' :=
  ⟨h.s.kept hb, (hb.block xb (lt_of h.x)).trans h.x, (hb.block yb (lt_of h.y)).trans h.y⟩
theorem wrap_dec {a : Int} (h : I64 (a - 1)) : wrap64 (a - 1) = a - 1 := by unfold I64 at h; unfold wrap64; show (a - 1 + 9223372036854775808) % 18446744073709551616 - 9223372036854775808 = a - 1; omega
theorem at_no {t : T} (h : tblB t = false) (r c : Int) : atN t r c = -1 := by unfold atN; rw [gOf_no h]; rfl
theorem across_no {t : T} (h : tblB t = false) (r c : Int) : (acrossF t r c).c = -1 := by unfold acrossF; rw [at_no h, at_no h]; rfl
theorem beside_no {t : T} (h : tblB t = false) (r c : Int) : (besideF t r c).c = -1 := by unfold besideF; rw [at_no h, at_no h]; rfl

set_option maxRecDepth 100000 in
set_option maxHeartbeats 2000000 in
theorem lawBrdMeet_walk (A : Option Addr) (len cap : Nat) (hlen : len ≤ 1048576) (w : World) (h : IsCode w A len cap) :
    Calls Try.prog 6 #[.slice A len cap] w fun e w' => e = .returned (.bool true) ∧ Below w.heap.size w w' := by
  have hl : ¬ (1048576 : Int) < (len : Int) := by omega
  have hmx : Try.prog.follows .mixedOrders = true := by kernel_rfl
  have HD := Hid.intro h
  clear h
  go_enter Try.func6, Try.ntmps6
  go_wp2_with fail
  refine (drawBrdAcross_any _ _ _ _ HD.out).mono ?_
  rintro e w1 ⟨ac, ar, cc, cr, t, r, c, rfl, hr, hc, hD, hC1, hW1, hb1⟩
  have HS : Hid (St w w1.heap.size ac ar cc cr t (w1.alloc (.cells #[.slice ac t.cols.length cc, .int .i64 t.head, .int .i64 t.foot, .slice ar t.rows.length cr, .int .i64 t.gap] 49))) := ⟨hb1.alloc hb1.size _, TA.kept ⟨hC1, hW1⟩ (k_alloc (Below.refl _ _) _), newestB _ _⟩
  have HDr := Hid.intro hD
  have Hr : Hid (-1000 ≤ r ∧ r ≤ 1000) := by unfold Hid; omega
  have Hc : Hid (-1000 ≤ c ∧ c ≤ 1000) := by unfold Hid; omega
  have HIr : Hid (I64 r ∧ I64 c ∧ I64 (r - 1) ∧ I64 (c - 1)) := by unfold Hid I64; omega
  clear hC1 hW1 hb1 hD HD
  go_upto_region 4 with fail
  generalize w1.alloc (.cells #[.slice ac t.cols.length cc, .int .i64 t.head, .int .i64 t.foot, .slice ar t.rows.length cr, .int .i64 t.gap] 49) = W1 at HS ⊢
  generalize w1.heap.size = tb at HS ⊢
  obtain ⟨z0, z1, z2, z3, z4⟩ := HS.out.at
  have htb := lt_of HS.out.2.2
  go_wp2_with fail
  refine (implBrdAcross ac ar cc cr t HDr.out r c Hr.out Hc.out _ HS.out.2.1.1 HS.out.2.1.2).mono ?_
  have HX : Hid (∃ x : Fr, x = acrossF t r c) := ⟨_, rfl⟩
  obtain ⟨x, hx⟩ := HX.out
  rw [← hx]
  rintro e w2 ⟨rfl, hb2⟩
  have Hx := Hid.intro hx
  have HS2 := Hid.intro ((HS.out.kept hb2).kept (k_alloc (Below.refl _ _) (.cells #[.int .i64 x.s, .int .i64 x.w, .int .i64 x.c] 42)))
  have HX2 : Hid ((w2.alloc (.cells #[.int .i64 x.s, .int .i64 x.w, .int .i64 x.c] 42)).heap[w2.heap.size]? = some (.cells #[.int .i64 x.s, .int .i64 x.w, .int .i64 x.c] 42)) := newestB _ _
  clear hb2 HS z0 z1 z2 z3 z4 htb hx HX
  go_upto_region 5 with fail
  generalize w2.alloc (.cells #[.int .i64 x.s, .int .i64 x.w, .int .i64 x.c] 42) = W2 at HS2 HX2 ⊢
  generalize w2.heap.size = xb at HX2 ⊢
  obtain ⟨z0, z1, z2, z3, z4⟩ := HS2.out.at
  have htb := lt_of HS2.out.2.2
  go_wp2_with fail
  refine (implBrdBeside ac ar cc cr t HDr.out r c Hr.out Hc.out _ HS2.out.2.1.1 HS2.out.2.1.2).mono ?_
  have HY : Hid (∃ y : Fr, y = besideF t r c) := ⟨_, rfl⟩
  obtain ⟨y, hy⟩ := HY.out
  rw [← hy]
  rintro e w3 ⟨rfl, hb3⟩
  have Hy := Hid.intro hy
  have HS3 : Hid (SX w tb xb w3.heap.size ac ar cc cr t x y (w3.alloc (.cells #[.int .i64 y.s, .int .i64 y.w, .int .i64 y.c] 42))) :=
    ⟨(HS2.out.kept hb3).kept (k_alloc (Below.refl _ _) _), more ((hb3.block xb (lt_of HX2.out)).trans HX2.out) _, newestB _ _⟩
  clear hb3 HS2 HX2 z0 z1 z2 z3 z4 htb hy HY
  go_upto_region 6 with fail
  generalize w3.alloc (.cells #[.int .i64 y.s, .int .i64 y.w, .int .i64 y.c] 42) = W3 at HS3 ⊢
  generalize w3.heap.size = yb at HS3 ⊢
  have hne := bw_some W3
  have KA := Hid.intro (fun (p : BW W3) => bw_of (by have k := specBrdAcross ac ar cc cr t HDr.out r c Hr.out Hc.out p.u (HS3.out.s.kept p.h).2.1.1 (HS3.out.s.kept p.h).2.1.2; rw [← Hx.out] at k; exact k))
  have KB := Hid.intro (fun (p : BW W3) => bw_of (by have k := specBrdBeside ac ar cc cr t HDr.out r c Hr.out Hc.out p.u (HS3.out.s.kept p.h).2.1.1 (HS3.out.s.kept p.h).2.1.2; rw [← Hy.out] at k; exact k))
  have htb := lt_of HS3.out.s.2.2
  have hxb := lt_of HS3.out.x
  have hyb := lt_of HS3.out.y
  have m0 := bw_cell (a := ⟨tb, 0, none⟩) htb (cellB (p := 0) HS3.out.s.2.2)
  have m1 := bw_cell (a := ⟨tb, 1, none⟩) htb (cellB (p := 1) HS3.out.s.2.2)
  have m2 := bw_cell (a := ⟨tb, 2, none⟩) htb (cellB (p := 2) HS3.out.s.2.2)
  have m3 := bw_cell (a := ⟨tb, 3, none⟩) htb (cellB (p := 3) HS3.out.s.2.2)
  have m4 := bw_cell (a := ⟨tb, 4, none⟩) htb (cellB (p := 4) HS3.out.s.2.2)
  have n0 := bw_cell (a := ⟨xb, 0, none⟩) hxb (cellB (p := 0) HS3.out.x)
  have n1 := bw_cell (a := ⟨xb, 1, none⟩) hxb (cellB (p := 1) HS3.out.x)
  have n2 := bw_cell (a := ⟨xb, 2, none⟩) hxb (cellB (p := 2) HS3.out.x)
  have o0 := bw_cell (a := ⟨yb, 0, none⟩) hyb (cellB (p := 0) HS3.out.y)
  have o1 := bw_cell (a := ⟨yb, 1, none⟩) hyb (cellB (p := 1) HS3.out.y)
  have o2 := bw_cell (a := ⟨yb, 2, none⟩) hyb (cellB (p := 2) HS3.out.y)
  refine wp_region_quiet_below hmx (by kernel_rfl) ?_
  repeat (go_big_quiet_step (first | (go_at_call 25; refine KA.out _) | (go_at_call 26; refine KB.out _)))
  refine wpQuiet_nil ?_
  intro W4 hw'
  obtain ⟨⟨Wx, hW4⟩, hw''⟩ := hw'
  subst hw''
  have HS4 := Hid.intro (HS3.out.kept hW4)
  clear KA KB m0 m1 m2 m3 m4 n0 n1 n2 o0 o1 o2 hne htb hxb hyb HS3
  clear hW4
  obtain ⟨z0, z1, z2, z3, z4⟩ := HS4.out.s.at
  have htb := lt_of HS4.out.s.2.2
  have KO := Hid.intro (specTblOk ac ar cc cr t W4 HS4.out.s.2.1.1 HS4.out.s.2.1.2)
  cases htk : tblB t with
  | false =>
    rw [htk] at KO
    have HS5 : Hid (x.c = -1 ∧ y.c = -1) := ⟨by rw [Hx.out]; exact across_no htk r c, by rw [Hy.out]; exact beside_no htk r c⟩
    clear htk
    go_wp2_with fail
    refine KO.out.mono ?_
    rintro e w5 ⟨rfl, hb5⟩
    have HK5 := Hid.intro (HS4.out.kept hb5)
    clear hb5 KO z0 z1 z2 z3 z4 htb
    obtain ⟨⟨n0, n1, n2⟩, _⟩ := cells3 HK5.out.x
    obtain ⟨⟨o0, o1, o2⟩, _⟩ := cells3 HK5.out.y
    rw [HS5.out.1] at n2
    rw [HS5.out.2] at o2
    go_wp2_with fail
    refine (pwOk_any _).mono ?_
    rintro e w6 ⟨rfl, rfl⟩
    go_wp2
    go_ret
    exact ⟨rfl, HK5.out.s.1⟩
  | true =>
    rw [htk] at KO
    clear htk
    go_wp2_with fail
    refine KO.out.mono ?_
    rintro e w5 ⟨rfl, hb5⟩
    have HS5 := Hid.intro (HS4.out.kept hb5)
    clear hb5 KO z0 z1 z2 z3 z4 htb HS4
    obtain ⟨z0, z1, z2, z3, z4⟩ := HS5.out.s.at
    have htb := lt_of HS5.out.s.2.2
    go_wp2_with fail
    refine (implGrdOf ac ar cc cr t HDr.out _ HS5.out.s.2.1.1 HS5.out.s.2.1.2).mono ?_
    rintro e w6 ⟨vg, rfl, hO6, hb6⟩
    obtain ⟨ag, cg, rfl⟩ := own_slice hO6
    have hG6 := hO6.at (gOf_gok HDr.out)
    have HG : Hid (SGr w tb w6.heap.size ac ar cc cr t ag cg (w6.alloc (.cells #[.int .i64 (gOf t).rows, .int .i64 (gOf t).cols, .slice ag (gOf t).cells.length cg] 56))) :=
      ⟨(HS5.out.s.kept hb6).kept (k_alloc (Below.refl _ _) _), (hG6.base (by have := HS5.out.s.1.size; omega)).kept (k_alloc (Below.refl _ _) _), newestB _ _⟩
    have HS6 := Hid.intro ((HS5.out.kept hb6).kept (k_alloc (Below.refl _ _) (.cells #[.int .i64 (gOf t).rows, .int .i64 (gOf t).cols, .slice ag (gOf t).cells.length cg] 56)))
    clear hO6 hb6 hG6 HS5 z0 z1 z2 z3 z4 htb
    go_upto_region 11 with fail
    generalize w6.alloc (.cells #[.int .i64 (gOf t).rows, .int .i64 (gOf t).cols, .slice ag (gOf t).cells.length cg] 56) = W6 at HG HS6 ⊢
    generalize w6.heap.size = gb at HG ⊢
    obtain ⟨b, hb⟩ : ∃ b, findTo (holdsB r c) (gOf t).cells = b := ⟨_, rfl⟩
    obtain ⟨p, hp⟩ : ∃ p, findTo (holdsB (r - 1) c) (gOf t).cells = p := ⟨_, rfl⟩
    obtain ⟨q, hq⟩ : ∃ q, findTo (holdsB r (c - 1)) (gOf t).cells = q := ⟨_, rfl⟩
    have K1 := Hid.intro (fun W (k : Below W6.heap.size W6 W) => by have := implGrdAt (gOf t).rows (gOf t).cols ag cg (gOf t).cells r c HIr.out.1 HIr.out.2.1 W (HG.out.kept k).2.1; rw [hb] at this; exact this)
    have K2 := Hid.intro (fun W (k : Below W6.heap.size W6 W) => by have := implGrdAt (gOf t).rows (gOf t).cols ag cg (gOf t).cells (r - 1) c HIr.out.2.2.1 HIr.out.2.1 W (HG.out.kept k).2.1; rw [hp] at this; exact this)
    have K3 := Hid.intro (fun W (k : Below W6.heap.size W6 W) => by have := implGrdAt (gOf t).rows (gOf t).cols ag cg (gOf t).cells r (c - 1) HIr.out.1 HIr.out.2.2.2 W (HG.out.kept k).2.1; rw [hq] at this; exact this)
    have ib := at_is t r c
    have ip := at_is t (r - 1) c
    have iq := at_is t r (c - 1)
    have Hx2 : Hid (x = meetF ⟨(cellN t p).a3, (cellN t p).b3, p⟩ ⟨(cellN t b).a1, (cellN t b).b1, b⟩) := by rw [Hid, Hx.out, ← hb, ← hp]; rfl
    have Hy2 : Hid (y = meetF ⟨(cellN t q).a2, (cellN t q).b2, q⟩ ⟨(cellN t b).a4, (cellN t b).b4, b⟩) := by rw [Hid, Hy.out, ← hb, ← hq]; rfl
    unfold atN at ib ip iq
    rw [hb] at ib
    rw [hp] at ip
    rw [hq] at iq
    have Hb := Hid.intro ib
    have Hp := Hid.intro ip
    have Hq := Hid.intro iq
    have KM := Hid.intro (fun W (k : Below W6.heap.size W6 W) => pwMeets_across ac ar ag cc cr cg t HDr.out p b x Hx2.out W (HG.out.kept k).1.2.1.2 (HG.out.kept k).2.1 Hp.out Hb.out)
    have KN := Hid.intro (fun W (k : Below W6.heap.size W6 W) => pwMeets_beside ac ar ag cc cr cg t HDr.out q b y Hy2.out W (HG.out.kept k).1.2.1.2 (HG.out.kept k).2.1 Hq.out Hb.out)
    clear ib ip iq hb hp hq Hx2 Hy2 Hb Hp Hq Hx Hy HDr
    have wr1 : wrap64 (r - 1) = r - 1 := wrap_dec HIr.out.2.2.1
    have wc1 : wrap64 (c - 1) = c - 1 := wrap_dec HIr.out.2.2.2
    obtain ⟨y0, y1, y2⟩ := HG.out.at
    have hgb := lt_of HG.out.2.2
    go_wp2_with fail
    refine (K1.out _ (Below.refl _ _)).mono ?_
    rintro e w7 ⟨rfl, hb7⟩
    obtain ⟨y0, y1, y2⟩ := (HG.out.kept hb7).at
    have HB7 := Hid.intro hb7
    clear hb7
    go_wp2_with fail
    refine (K2.out _ HB7.out).mono ?_
    rintro e w8 ⟨rfl, hb8⟩
    have hb8' := k_trans HB7.out hb8
    obtain ⟨y0, y1, y2⟩ := (HG.out.kept hb8').at
    have HB8 := Hid.intro hb8'
    clear hb8 hb8'
    go_wp2_with fail
    refine (K3.out _ HB8.out).mono ?_
    rintro e w9 ⟨rfl, hb9⟩
    have hb9' := k_trans HB8.out hb9
    obtain ⟨y0, y1, y2⟩ := (HG.out.kept hb9').at
    obtain ⟨z0, z1, z2, z3, z4⟩ := (HG.out.kept hb9').1.at
    obtain ⟨⟨n0, n1, n2⟩, _⟩ := cells3 (HS6.out.kept hb9').x
    obtain ⟨⟨o0, o1, o2⟩, _⟩ := cells3 (HS6.out.kept hb9').y
    have HB9 := Hid.intro hb9'
    clear hb9 hb9'
    go_wp2_with fail
    refine (KM.out _ HB9.out).mono ?_
    rintro e wa ⟨rfl, hba⟩
    have hba' := k_trans HB9.out hba
    obtain ⟨y0, y1, y2⟩ := (HG.out.kept hba').at
    obtain ⟨z0, z1, z2, z3, z4⟩ := (HG.out.kept hba').1.at
    obtain ⟨⟨o0, o1, o2⟩, _⟩ := cells3 (HS6.out.kept hba').y
    have HBa := Hid.intro hba'
    clear hba hba'
    go_wp2_with fail
    refine (KN.out _ HBa.out).mono ?_
    rintro e wb ⟨rfl, hbb⟩
    have HBb := Hid.intro ((HS6.out.kept (k_trans HBa.out hbb)).s.1)
    clear hbb
    go_wp2_with fail
    refine (pwOk_any _).mono ?_
    rintro e wc ⟨rfl, rfl⟩
    go_wp2
    go_ret
    exact ⟨rfl, HBb.out⟩

set_option maxRecDepth 100000 in
theorem lawBrdMeet (a : Option Addr) (len cap : Nat) (w : World) (h : IsCode w a len cap) :
    Calls Try.prog 6 #[.slice a len cap] w fun e w' => e = .returned (.bool true) ∧ Below w.heap.size w w' := by
  by_cases hl : (1048576 : Int) < (len : Int)
  · go_enter Try.func6, Try.ntmps6
    go_wp2
    go_ret
    exact ⟨rfl, Below.refl _ _⟩
  · exact lawBrdMeet_walk a len cap (by omega) w h
end Go.Proofs.Ytfkkhfiiokhnaag
