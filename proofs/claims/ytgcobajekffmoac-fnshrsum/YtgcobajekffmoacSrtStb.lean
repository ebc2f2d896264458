/-
  PROVED HERE: what the library's stable sort does with a row of at most a hundred claims whose places ascend: it becomes the one row that is sorted by what is left over, then by place.
-/
import Derived.Test.YtgcobajekffmoacSrtSymL
import Derived.Test.YtgcobajekffmoacSrtSymR
import Derived.Test.YtgcobajekffmoacSrtSymA
import Derived.Test.YtgcobajekffmoacSrtSymB
import Derived.Test.YtgcobajekffmoacBlkTh
namespace Go.Proofs.Ytgcobajekffmoac
open Go.RowKit Go.Shelf Go.Lib Go.Sort

theorem sym_any (blk off cap : Nat) (d0 : Array Cl) (w0 : World) (R : RowK encC 3 w0 blk off d0) : ∀ (n a m b : Nat) (d : Array Cl) (w : World), b - a ≤ n → d0.size = d.size → SWK encC 3 w0 blk off d w → MPre a m b d → a < m → m < b → b ≤ d.size → d.size < 4611686018427387904 →
    Calls Try.prog 72 #[.slice (some ⟨blk, off, none⟩) d.size cap, .int .i64 a, .int .i64 m, .int .i64 b, .func (.func 52) #[] #[]] w fun e w' => e = .returned (.tuple #[]) ∧ ∃ d', PermIn a b d d' ∧ SortedIn tB a b d' ∧ SWK encC 3 w0 blk off d' w'
  | 0, a, m, b, d, w, hn, _, _, _, h1, h2, _, _ => by omega
  | n + 1, a, m, b, d, w, hn, hs, S, M, h1, h2, hb, hsz => by
    by_cases c1 : m = a + 1
    · exact sym_left 3 Try.sizeOf75 encC 52 #[] blk off cap a m b d0 d w0 w egC (cmpC _ _ _ _) R hs S M h1 h2 hb hsz c1
    · by_cases c2 : b = m + 1
      · exact sym_right 3 Try.sizeOf75 encC 52 #[] blk off cap a m b d0 d w0 w egC (cmpC _ _ _ _) R hs S M h1 h2 hb hsz c1 c2
      · by_cases c3 : (a + b) / 2 < m
        · exact sym_hi 3 Try.sizeOf75 encC 52 #[] blk off cap a m b d0 d w0 w egC (cmpC _ _ _ _) R hs S M h1 h2 hb hsz c1 c2
            (fun a' m' b' d' W q1 q2 q3 q4 q5 q6 q7 q8 => sym_any blk off cap d0 w0 R n a' m' b' d' W (by omega) q2 q3 q4 q5 q6 q7 q8) ((a + b) / 2) (by omega) (by omega) c3
        · exact sym_lo 3 Try.sizeOf75 encC 52 #[] blk off cap a m b d0 d w0 w egC (cmpC _ _ _ _) R hs S M h1 h2 hb hsz c1 c2
            (fun a' m' b' d' W q1 q2 q3 q4 q5 q6 q7 q8 => sym_any blk off cap d0 w0 R n a' m' b' d' W (by omega) q2 q3 q4 q5 q6 q7 q8) ((a + b) / 2) (by omega) (by omega) c3

set_option maxHeartbeats 8000000 in
set_option maxRecDepth 1000000 in
theorem stable_any (blk off cap : Nat) (d0 : Array Cl) (w0 : World) (R : RowK encC 3 w0 blk off d0) (hA : Asc 0 d0.size d0) (h100 : d0.size ≤ 100) :
    Calls Try.prog 60 #[.slice (some ⟨blk, off, none⟩) d0.size cap, .int .i64 d0.size, .func (.func 52) #[] #[]] w0 fun e w' => e = .returned (.tuple #[]) ∧ ∃ d', PermIn 0 d0.size d0 d' ∧ SortedIn tB 0 d0.size d' ∧ SWK encC 3 w0 blk off d' w' := by
  have HI := Hid.intro (fun a b d w h1 h2 h3 h4 h5 => ins_any blk off cap a b d0 d w0 w R h1 h2 h3 h4 h5)
  have HY := Hid.intro (fun a m b d w => sym_any blk off cap d0 w0 R (b - a) a m b d w (Nat.le_refl _))
  have S0 := Hid.intro (SWK.start R.hH)
  have G0 := Hid.intro (seg_start hA)
  obtain ⟨n, hn⟩ : ∃ n, n = d0.size := ⟨_, rfl⟩
  rw [← hn] at G0 h100
  have HN := Hid.intro hn
  rw [← hn]
  clear hA hn
  go_enter Try.func60, Try.ntmps60
  go_wp2_with fail
  go_loopw [7, 8] (fun s7 s8 W => ∃ (a : Nat) (d : Array Cl), s7 = .int .i64 a ∧ s8 = .int .i64 ((a : Int) + 20) ∧ a % 20 = 0 ∧ a ≤ n ∧ Hid (SWK encC 3 w0 blk off d W) ∧ Hid (Seg n (T1 a) d ∧ PermIn 0 n d0 d)) (fun s7 _ _ => n - (intOf s7).toNat)
  case atStart => exact ⟨0, d0, rfl, rfl, rfl, Nat.zero_le _, S0, G0.out, permIn_refl _ _ _⟩
  case round =>
    clear S0 G0
    obtain ⟨a, d, rfl, rfl, ha, han, HS, HG⟩ := hrel
    have hz : d.size = n := HG.out.2.1.trans HN.out.symm
    have HZ := Hid.intro hz
    clear hz
    by_cases hlt : a + 20 ≤ n
    · have hltz : (a : Int) + 20 ≤ (n : Int) := by omega
      have HW := HI.out a (a + 20) d wr (by rw [← HN.out]; exact HZ.out.symm) HS.out (by omega) (by rw [HZ.out]; exact hlt) (by rw [HZ.out]; omega)
      have e1 : ((a + 20 : Nat) : Int) = (a : Int) + 20 := by omega
      rw [HZ.out, e1] at HW
      go_wp2_with fail
      refine HW.mono ?_
      rintro e w2 ⟨rfl, S2⟩
      obtain ⟨p2, s2⟩ := ins_sorts d a (a + 20) (by omega) (by rw [HZ.out]; exact hlt) (asc_of_seg HG.out.1 hlt)
      have G2 : Hid (Seg n (T1 (a + 20)) (Sort.insertionSort (ltOf cfC) d a (a + 20)) ∧ PermIn 0 n d0 (Sort.insertionSort (ltOf cfC) d a (a + 20))) :=
        ⟨seg_ins HG.out.1 (by rw [HZ.out]; exact Nat.le_refl _) ha hlt p2 s2, permIn_trans _ _ _ 0 n HG.out.2 (permIn_mono _ _ a (a + 20) 0 n (Nat.zero_le _) hlt (by rw [HZ.out]; exact Nat.le_refl _) p2)⟩
      have HS2 := Hid.intro S2
      clear p2 s2 S2 HW
      generalize Sort.insertionSort (ltOf cfC) d a (a + 20) = d2 at G2 HS2
      go_wp2
      go_roundw
      case rel => exact ⟨a + 20, d2, by go_num, by go_num, by omega, hlt, HS2, G2⟩
      case measure => simp [intOf]; omega
    · have hltz : ¬ (a : Int) + 20 ≤ (n : Int) := by omega
      have HW := HI.out a n d wr (by rw [← HN.out]; exact HZ.out.symm) HS.out han (by rw [HZ.out]; exact Nat.le_refl _) (by rw [HZ.out]; omega)
      rw [HZ.out] at HW
      go_wp2_with fail
      refine HW.mono ?_
      rintro e w2 ⟨rfl, S2⟩
      obtain ⟨p2, s2⟩ := ins_sorts d a n han (by rw [HZ.out]; exact Nat.le_refl _) (asc_of_seg HG.out.1 (Nat.le_refl _))
      have G2 : Hid (Seg n (T2 20 0) (Sort.insertionSort (ltOf cfC) d a n) ∧ PermIn 0 n d0 (Sort.insertionSort (ltOf cfC) d a n)) :=
        ⟨seg_ins_end HG.out.1 (by rw [HZ.out]; exact Nat.le_refl _) ha han (by omega) p2 s2, permIn_trans _ _ _ 0 n HG.out.2 (permIn_mono _ _ a n 0 n (Nat.zero_le _) (Nat.le_refl _) (by rw [HZ.out]; exact Nat.le_refl _) p2)⟩
      have HS2 := Hid.intro S2
      clear p2 s2 S2 HW HS HG HZ
      generalize Sort.insertionSort (ltOf cfC) d a n = d2 at G2 HS2
      go_wp2_with fail
      go_loopw [6] (fun s6 W => ∃ (s : Nat) (d : Array Cl), s6 = .int .i64 s ∧ 20 ≤ s ∧ s ≤ 160 ∧ Hid (s = 20 ∨ s = 40 ∨ s = 80 ∨ s = 160) ∧ Hid (SWK encC 3 w0 blk off d W) ∧ Hid (Seg n (T2 s 0) d ∧ PermIn 0 n d0 d)) (fun s6 _ => 200 - (intOf s6).toNat)
      case atStart => exact ⟨20, d2, rfl, by omega, by omega, Or.inl rfl, HS2, G2⟩
      case round =>
        clear HS2 G2
        obtain ⟨s, d, rfl, hs1, hs2, HO, HS, HG⟩ := hrel
        by_cases hsn : s < n
        · have hsz : (s : Int) < (n : Int) := by omega
          have HO3 : Hid (s = 20 ∨ s = 40 ∨ s = 80) := by have h1 := HO.out; show _ ∨ _; omega
          have hs3 : s ≤ 80 := by have h1 := HO3.out; omega
          have HM : Hid (∀ a : Nat, a % (2 * s) = 0 → (a + 2 * s) % (2 * s) = 0) := fun a h => by rw [Nat.add_mod_right]; exact h
          go_wp2_with fail
          go_loopw [7, 8] (fun s7 s8 W => ∃ (a : Nat) (d : Array Cl), s7 = .int .i64 a ∧ s8 = .int .i64 ((a : Int) + 2 * (s : Int)) ∧ a ≤ n ∧ Hid (a % (2 * s) = 0) ∧ Hid (SWK encC 3 w0 blk off d W) ∧ Hid (Seg n (T2 s a) d ∧ PermIn 0 n d0 d)) (fun s7 _ _ => n - (intOf s7).toNat)
          case atStart => exact ⟨0, d, rfl, by go_num, Nat.zero_le _, Nat.zero_mod _, HS, HG⟩
          case round =>
            clear HS HG
            obtain ⟨a, d, rfl, rfl, han, HA, HS, HG⟩ := hrel
            have HZ : Hid (d.size = n) := HG.out.2.1.trans HN.out.symm
            by_cases hlt : a + 2 * s ≤ n
            · have hltz : (a : Int) + 2 * (s : Int) ≤ (n : Int) := by omega
              have HW := HY.out a (a + s) (a + 2 * s) d wr (by rw [← HN.out]; exact HZ.out.symm) HS.out (pre_of_seg HO3.out HG.out.1 HA.out rfl (by omega) hlt (Nat.le_refl _)) (by omega) (by omega) (by rw [HZ.out]; exact hlt) (by rw [HZ.out]; omega)
              have e1 : ((a + 2 * s : Nat) : Int) = (a : Int) + 2 * (s : Int) := by omega
              have e2 : ((a + s : Nat) : Int) = (a : Int) + (s : Int) := by omega
              rw [HZ.out, e1, e2] at HW
              go_wp2_with fail
              refine HW.mono ?_
              rintro e w3 ⟨rfl, d3, p3, s3, S3'⟩
              have G3 : Hid (Seg n (T2 s (a + 2 * s)) d3 ∧ PermIn 0 n d0 d3) := ⟨seg_merge HO3.out HG.out.1 (by rw [HZ.out]; exact Nat.le_refl _) HA.out rfl hlt p3 s3, permIn_trans _ _ _ 0 n HG.out.2 (permIn_mono _ _ a (a + 2 * s) 0 n (Nat.zero_le _) hlt (by rw [HZ.out]; exact Nat.le_refl _) p3)⟩
              have S3 := Hid.intro S3'
              have HA3 := Hid.intro (HM.out a HA.out)
              clear p3 s3 S3' HW
              go_wp2
              go_roundw
              case rel => exact ⟨a + 2 * s, d3, by rw [e1], by rw [e1], hlt, HA3, S3, G3⟩
              case measure => simp [intOf]; omega
            · have hltz : ¬ (a : Int) + 2 * (s : Int) ≤ (n : Int) := by omega
              by_cases hmn : a + s < n
              · have hmz : (a : Int) + (s : Int) < (n : Int) := by omega
                have HW := HY.out a (a + s) n d wr (by rw [← HN.out]; exact HZ.out.symm) HS.out (pre_of_seg HO3.out HG.out.1 HA.out rfl (by omega) (Nat.le_refl _) (by omega)) (by omega) (by omega) (by rw [HZ.out]; exact Nat.le_refl _) (by rw [HZ.out]; omega)
                have e2 : ((a + s : Nat) : Int) = (a : Int) + (s : Int) := by omega
                rw [HZ.out, e2] at HW
                go_wp2_with fail
                refine HW.mono ?_
                rintro e w3 ⟨rfl, d3, p3, s3, S3'⟩
                have G3 : Hid (Seg n (T2 (2 * s) 0) d3 ∧ PermIn 0 n d0 d3) := ⟨seg_merge_end HO3.out HG.out.1 (by rw [HZ.out]; exact Nat.le_refl _) HA.out han (by omega) p3 s3, permIn_trans _ _ _ 0 n HG.out.2 (permIn_mono _ _ a n 0 n (Nat.zero_le _) (Nat.le_refl _) (by rw [HZ.out]; exact Nat.le_refl _) p3)⟩
                have S3 := Hid.intro S3'
                have HO4 : Hid (2 * s = 20 ∨ 2 * s = 40 ∨ 2 * s = 80 ∨ 2 * s = 160) := by have h1 := HO3.out; show _ ∨ _; omega
                clear p3 s3 S3' HW
                go_wp2
                go_roundw
                case rel => exact ⟨2 * s, d3, by go_num, by omega, by omega, HO4, S3, G3⟩
                case measure => simp [intOf]; omega
              · have hmz : ¬ (a : Int) + (s : Int) < (n : Int) := by omega
                have G3 : Hid (Seg n (T2 (2 * s) 0) d ∧ PermIn 0 n d0 d) := ⟨seg_pass HO3.out HG.out.1 HA.out han (by omega), HG.out.2⟩
                have HO4 : Hid (2 * s = 20 ∨ 2 * s = 40 ∨ 2 * s = 80 ∨ 2 * s = 160) := by have h1 := HO3.out; show _ ∨ _; omega
                go_wp2
                go_roundw
                case rel => exact ⟨2 * s, d, by go_num, by omega, by omega, HO4, HS, G3⟩
                case measure => simp [intOf]; omega
        · have hsz : ¬ (s : Int) < (n : Int) := by omega
          have HE : Hid (PermIn 0 n d0 d ∧ SortedIn tB 0 n d) := ⟨HG.out.2, seg_sorted HO.out HG.out.1 (by omega)⟩
          go_wp2
          go_end0
          exact ⟨rfl, d, HE.out.1, HE.out.2, HS.out⟩

/-- slices.SortStableFunc at claims -/
theorem sortStable_any (blk off cap : Nat) (d0 : Array Cl) (w0 : World) (R : RowK encC 3 w0 blk off d0) (hA : Asc 0 d0.size d0) (h100 : d0.size ≤ 100) :
    Calls Try.prog 51 #[.slice (some ⟨blk, off, none⟩) d0.size cap, .func (.func 52) #[] #[]] w0 fun e w' => e = .returned (.tuple #[]) ∧ ∃ d', PermIn 0 d0.size d0 d' ∧ SortedIn tB 0 d0.size d' ∧ SWK encC 3 w0 blk off d' w' := by
  have HW := Hid.intro (stable_any blk off cap d0 w0 R hA h100)
  clear hA R
  go_enter Try.func51, Try.ntmps51
  go_wp2_with fail
  refine HW.out.mono ?_
  rintro e w1 ⟨rfl, h⟩
  have H := Hid.intro h
  clear h
  go_wp2
  go_end0
  exact ⟨rfl, H.out⟩
end Go.Proofs.Ytgcobajekffmoac
