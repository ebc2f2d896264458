/-
  PROVED HERE: what the library's rotateCmpFunc does with a row of claims.
-/
import Derived.Test.YtgcobajekffmoacSrtSwap
namespace Go.Proofs.Ytgcobajekffmoac
open Go.RowKit Go.Shelf Go.Lib Go.Sort

set_option maxHeartbeats 4000000 in
set_option maxRecDepth 1000000 in
theorem rot_k (k : Nat) (zE : ∀ w, (Go.sizeOf 75).run Try.prog w = .ok k w) (enc : Cl → List Value) (g : Nat) (cb : Array Value) (blk off cap a m b : Nat) (d0 d : Array Cl) (w0 w : World)
    (R : RowK enc k w0 blk off d0) (hs : d0.size = d.size) (S : SWK enc k w0 blk off d w) (ham : a < m) (hmb : m < b) (hb : b ≤ d.size) (hsz : d.size < 4611686018427387904) :
    Calls Try.prog 79 #[.slice (some ⟨blk, off, none⟩) d.size cap, .int .i64 a, .int .i64 m, .int .i64 b, .func (.func g) #[] cb] w fun e w' => e = .returned (.tuple #[]) ∧ ∃ d', RotD a m b d d' ∧ SWK enc k w0 blk off d' w' := by
  have HS : Hid (SWK enc k w0 blk off d w) := S
  have HC := Hid.intro (fun a b n dk W h1 h2 h3 h4 => swapR_k k zE enc (.func (.func g) #[] cb) blk off cap a b n d0 dk w0 W R h1 h2 h3 h4)
  clear S zE
  have e0 : ((m - a : Nat) : Int) = (m : Int) - (a : Int) := by omega
  have e1 : ((b - m : Nat) : Int) = (b : Int) - (m : Int) := by omega
  go_enter Try.func79, Try.ntmps79
  go_wp2_with fail
  go_loopw [10, 11] (fun s10 s11 W => ∃ (i j : Nat) (dk : Array Cl), s10 = .int .i64 i ∧ s11 = .int .i64 j ∧ 0 < i ∧ i ≤ m - a ∧ 0 < j ∧ j ≤ b - m ∧ dk.size = d.size ∧ Hid (SWK enc k w0 blk off dk W) ∧ Hid (∀ f, RotD (m - i) m (m + j) dk f → RotD a m b d f)) (fun s10 s11 _ => (intOf s10).toNat + (intOf s11).toNat)
  case atStart => exact ⟨m - a, b - m, d, by rw [e0], by rw [e1], by omega, Nat.le_refl _, by omega, Nat.le_refl _, rfl, HS, fun f hf => by rw [show m - (m - a) = a by omega, show m + (b - m) = b by omega] at hf; exact hf⟩
  case round =>
    obtain ⟨i, j, dk, rfl, rfl, hi0, hi, hj0, hj, hds, HK, HF⟩ := hrel
    by_cases hij : i = j
    · subst hij
      have hne : ((i : Int) != (i : Int)) = false := by simp
      have HW := HC.out (m - i) m i dk wr (by omega) HK.out (by omega) (by omega) (by omega)
      have e2 : ((m - i : Nat) : Int) = (m : Int) - (i : Int) := by omega
      rw [e2, hds] at HW
      go_wp2_with fail
      refine HW.mono ?_
      rintro e w2 ⟨rfl, d2, h2, S2⟩
      have HE := Hid.intro (HF.out d2 (RotD.even (by omega) h2))
      have HS2 := Hid.intro S2
      clear h2 S2
      go_wp2
      go_end0
      exact ⟨rfl, d2, HE.out, HS2.out⟩
    · have hne : ((i : Int) != (j : Int)) = true := by simp; omega
      by_cases hlt : j < i
      · have hltz : (j : Int) < (i : Int) := by omega
        have HW := HC.out (m - i) m j dk wr (by omega) HK.out (by omega) (by omega) (by omega)
        have e2 : ((m - i : Nat) : Int) = (m : Int) - (i : Int) := by omega
        rw [e2, hds] at HW
        go_wp2_with fail
        refine HW.mono ?_
        rintro e w2 ⟨rfl, d2, h2, S2⟩
        have hd2 := h2.size
        have HE : Hid (∀ f, RotD (m - (i - j)) m (m + j) d2 f → RotD a m b d f) := fun f hf => HF.out f (RotD.more hlt (by omega) h2 (by rw [show m - i + j = m - (i - j) by omega]; exact hf))
        have HS2 := Hid.intro S2
        clear h2 S2
        go_wp2
        go_roundw
        case rel => exact ⟨i - j, j, d2, by rw [show ((i - j : Nat) : Int) = (i : Int) - (j : Int) by omega], rfl, by omega, by omega, hj0, hj, by omega, HS2, HE⟩
        case measure => simp [intOf]; omega
      · have hltz : ¬ (j : Int) < (i : Int) := by omega
        have HW := HC.out (m - i) (m + j - i) i dk wr (by omega) HK.out (by omega) (by omega) (by omega)
        have e2 : ((m - i : Nat) : Int) = (m : Int) - (i : Int) := by omega
        have e3 : ((m + j - i : Nat) : Int) = (m : Int) + (j : Int) - (i : Int) := by omega
        rw [e2, e3, hds] at HW
        go_wp2_with fail
        refine HW.mono ?_
        rintro e w2 ⟨rfl, d2, h2, S2⟩
        have hd2 := h2.size
        have HE : Hid (∀ f, RotD (m - i) m (m + (j - i)) d2 f → RotD a m b d f) := fun f hf => HF.out f (RotD.less (by omega) (by omega) h2 (by rw [show m + j - i = m + (j - i) by omega]; exact hf))
        have HS2 := Hid.intro S2
        clear h2 S2
        go_wp2
        go_roundw
        case rel => exact ⟨i, j - i, d2, rfl, by rw [show ((j - i : Nat) : Int) = (j : Int) - (i : Int) by omega], hi0, hi, by omega, by omega, by omega, HS2, HE⟩
        case measure => simp [intOf]; omega
end Go.Proofs.Ytgcobajekffmoac
