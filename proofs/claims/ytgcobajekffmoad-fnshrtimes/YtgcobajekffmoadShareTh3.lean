/-
  PROVED HERE: weights that are all three times as much share alike; if all are 0 all get alike, but for one; plain theory.
-/
import Derived.Test.YtgcobajekffmoadShareTh2
namespace Go.Proofs.Ytgcobajekffmoad
open Go.Sort

def thr (l : List Int) : List Int := l.map (fun x => 3 * x)
theorem thr_len (l : List Int) : (thr l).length = l.length := by simp [thr]
theorem thr_get {l : List Int} {i : Nat} (h : i < l.length) : (thr l).getD i 0 = 3 * l.getD i 0 := by simp [thr, List.getD, h]
theorem thr_sum (l : List Int) : (thr l).sum = 3 * l.sum := by
  unfold thr
  induction l with
  | nil => rfl
  | cons y r ih => rw [List.map_cons, List.sum_cons, List.sum_cons, ih]; omega
theorem thr_quo (t x s : Int) : t * (3 * x) / (3 * s) = t * x / s := by
  rw [Int.mul_left_comm t 3 x, Int.mul_ediv_mul_of_pos _ _ (by omega)]
theorem thr_rem (t x s : Int) : t * (3 * x) % (3 * s) = 3 * (t * x % s) := by
  rw [Int.mul_left_comm t 3 x, Int.mul_emod_mul_of_pos _ _ (by omega)]
def sc (c : Cl) : Cl := ⟨c.p, c.w, 3 * c.o⟩
theorem cl_thr {t : Int} {u : List Int} {i : Nat} (h : i < u.length) : cl t (thr u) i = sc (cl t u i) := by
  unfold cl sc
  rw [thr_get h, thr_sum, thr_quo, thr_rem]
theorem clL_thr (t : Int) (u : List Int) : clL t (thr u) = (clL t u).map sc := by
  unfold clL
  rw [thr_len, List.map_map]
  apply List.map_congr_left
  intro i hi
  exact cl_thr (List.mem_range.1 hi)
theorem base_thr (t : Int) (u : List Int) : baseL t (thr u) = baseL t u := by
  unfold baseL
  rw [clL_thr, List.map_map]
  rfl
theorem tB_sc (x y : Cl) : tB (sc x) (sc y) = tB x y := by
  rw [Bool.eq_iff_iff, tB_iff, tB_iff]
  simp only [sc]
  omega
theorem srt_thr (t : Int) (u : List Int) : srtL t (thr u) = (srtL t u).map sc := by
  refine List.Perm.eq_of_pairwise (le := fun x y => tB y x = false) (fun a b _ _ h1 h2 => tB_total a b h2 h1) (srt_sorted t (thr u)) ?_ ?_
  · rw [List.pairwise_map]
    exact (srt_sorted t u).imp (fun h => by rw [tB_sc]; exact h)
  · rw [srtL, clL_thr]
    exact (List.mergeSort_perm _ _).trans ((List.mergeSort_perm (clL t u) _).symm.map sc)
theorem bumps_sc (g : List Int) (S : List Cl) (k : Nat) : bumps g (S.map sc) k = bumps g S k := by
  unfold bumps
  rw [← List.map_take, List.foldl_map]
  rfl
theorem share_thr {t : Int} {l : List Int} (h1 : shrOkB t l = true) (h3 : shrOkB t (thr l) = true) : shareL t (thr l) = shareL t l := by
  by_cases hn : l = []
  · subst hn; rfl
  · have hn3 : thr l ≠ [] := fun e => hn (List.eq_nil_of_length_eq_zero (by rw [← thr_len, e]; rfl))
    rw [shareL_some h1 hn, shareL_some h3 hn3]
    by_cases hs : l.sum = 0
    · have e : wts (thr l) = wts l := by rw [wts, wts, if_pos hs, if_pos (by rw [thr_sum, hs]; rfl), thr_len]
      rw [e]
    · have e1 : wts l = l := by rw [wts, if_neg hs]
      have e3 : wts (thr l) = thr l := by rw [wts, if_neg (by rw [thr_sum]; omega)]
      have hp := wts_pos (shrOk_parts h1).2.2 (List.length_pos_iff.2 hn)
      rw [e1] at hp
      have hd : dueTo t (thr l) (thr l).length = dueTo t l l.length := by
        have d1 := base_sum h3 (by rw [thr_sum]; omega) (thr l).length (Nat.le_refl _)
        have d2 := base_sum h1 hp l.length (Nat.le_refl _)
        rw [base_thr, thr_len, d2] at d1
        rw [thr_len]
        exact d1.symm
      rw [e1, e3, base_thr, srt_thr, bumps_sc, leftN, hd]
      rfl
theorem zeros_ok {t : Int} {l : List Int} (h1 : shrOkB t l = true) : shrOkB t (List.replicate l.length 0) = true := by
  simp only [shrOkB, Bool.and_eq_true] at h1 ⊢
  obtain ⟨⟨a, b⟩, _⟩ := h1
  refine ⟨⟨a, by simpa using b⟩, ?_⟩
  rw [List.all_eq_true]
  intro x hx
  rw [(List.mem_replicate.1 hx).2]
  rfl
theorem zeros_alike {t : Int} {n : Nat} (h1 : shrOkB t (List.replicate n 0) = true) {i k : Nat} (hik : i < k) (hk : k < n) : (shareL t (List.replicate n 0)).getD k 0 ≤ (shareL t (List.replicate n 0)).getD i 0 ∧ (shareL t (List.replicate n 0)).getD i 0 ≤ (shareL t (List.replicate n 0)).getD k 0 + 1 := by
  refine share_alike h1 hik (by simpa using hk) ?_
  have hz : (List.replicate n (0 : Int)).sum = 0 := by simp
  rw [wts, if_pos hz]
  simp [List.getD, hk, show i < n by omega]

/-- two rows that grow -/
structure Q2 (w W : World) (v6 v7 : Value) (l6 l7 : List Int) : Prop where
  o6 : W.ownsRow w.heap.size 3 1 v6 l6.length (l6.map (Value.int .i64))
  o7 : W.ownsRow w.heap.size 3 1 v7 l7.length (l7.map (Value.int .i64))
  ne : v6.ownBlock ≠ v7.ownBlock
  below : RowKit.Below w.heap.size w W
theorem Q2.alloc {w W : World} {v6 v7 : Value} {l6 l7 : List Int} (h : Q2 w W v6 v7 l6 l7) (o : Obj) : Q2 w (W.alloc o) v6 v7 l6 l7 :=
  ⟨h.o6.alloc o, h.o7.alloc o, h.ne, h.below.alloc h.below.size o⟩
theorem q2_some {w : World} {v : Value} {B n : Nat} {e : TypeId} {xs : List Value} (h : w.ownsRow B e 1 v n xs) : v.ownBlock ≠ some w.heap.size := fun e => by have := (h.lt _ e).2; omega
theorem Q2.app6 {w W W' : World} {v6 v7 v' : Value} {l6 l7 : List Int} (h : Q2 w W v6 v7 l6 l7) {x : Int}
    (ho : W'.ownsRow w.heap.size 3 1 v' (l6.length + 1) (l6.map (Value.int .i64) ++ [.int .i64 x])) (hg : W.grownBy W' v6.ownBlock) (hat : v'.ownBlock = v6.ownBlock ∨ v'.ownBlock = some W.heap.size) : Q2 w W' v' v7 (l6 ++ [x]) l7 where
  o6 := by rw [List.length_append, List.map_append]; exact ho
  o7 := h.o7.kept hg (.inr (Ne.symm h.ne))
  ne := by rcases hat with e | e <;> rw [e]; exact h.ne; exact (q2_some h.o7).symm
  below := h.below.grown hg h.below.size (fun b hb => (h.o6.lt b hb).1)
theorem Q2.app7 {w W W' : World} {v6 v7 v' : Value} {l6 l7 : List Int} (h : Q2 w W v6 v7 l6 l7) {x : Int}
    (ho : W'.ownsRow w.heap.size 3 1 v' (l7.length + 1) (l7.map (Value.int .i64) ++ [.int .i64 x])) (hg : W.grownBy W' v7.ownBlock) (hat : v'.ownBlock = v7.ownBlock ∨ v'.ownBlock = some W.heap.size) : Q2 w W' v6 v' l6 (l7 ++ [x]) where
  o6 := h.o6.kept hg (.inr h.ne)
  o7 := by rw [List.length_append, List.map_append]; exact ho
  ne := by rcases hat with e | e <;> rw [e]; exact h.ne; exact q2_some h.o6
  below := h.below.grown hg h.below.size (fun b hb => (h.o7.lt b hb).1)
theorem Q2.start (w : World) : Q2 w ((w.alloc (.cells #[] 3)).alloc (.cells #[] 3)) (.slice (some ⟨w.heap.size, 0, none⟩) 0 0) (.slice (some ⟨w.heap.size + 1, 0, none⟩) 0 0) [] [] where
  o6 := (World.ownsRow_made (base := w.heap.size) (e := 3) (size := 1) w #[] 0 (Nat.le_refl _) (Nat.zero_le _) rfl).alloc _
  o7 := by
    have := World.ownsRow_made (base := w.heap.size) (e := 3) (size := 1) (w.alloc (.cells #[] 3)) #[] 0 (by simp) (Nat.zero_le _) rfl
    have e : (w.alloc (.cells #[] 3)).heap.size = w.heap.size + 1 := by simp
    rw [e] at this
    exact this
  ne := fun e => by simp [Value.ownBlock] at e
  below := k_alloc (k_alloc (RowKit.Below.refl _ _) _) _
end Go.Proofs.Ytgcobajekffmoad
