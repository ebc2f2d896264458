/-
  PROVED HERE: small facts for a cell at a place that is drawn.
-/
import Derived.Test.YtmdghonefdmihagDrawPl
namespace Go.Proofs.Ytmdghonefdmihag
open Go.RowKit

theorem IsCode.keptC {w w' : World} {a : Option Addr} {len cap : Nat} (h : IsCode w a len cap) (hb : Below w.heap.size w w') : IsCode w' a len cap := by
  obtain ⟨h1, h2, hc⟩ := h
  refine ⟨h1, h2, fun i hi => ?_⟩
  obtain ⟨b, off, z, e, l, c, z0, z1⟩ := hc i hi
  exact ⟨b, off, z, e, Nat.lt_of_lt_of_le l hb.size, (hb.cell (p := ⟨b, off + i, none⟩) l).trans c, z0, z1⟩
theorem rowI_s5 {w : World} {B D g : Nat} {v : Value} {l : List Int} (h : RowI w B D v l) (hg : g < B) (y0 y1 y2 y3 y4 : Value) : RowI (s5 w g y0 y1 y2 y3 y4) B D v l :=
  h.kept (fun j _ h1 _ => (Below.heap_setCell _ _ _ _ (by show j ≠ g; omega)).trans ((Below.heap_setCell _ _ _ _ (by show j ≠ g; omega)).trans ((Below.heap_setCell _ _ _ _ (by show j ≠ g; omega)).trans ((Below.heap_setCell _ _ _ _ (by show j ≠ g; omega)).trans (Below.heap_setCell _ _ _ _ (by show j ≠ g; omega))))))
theorem below_s5 {a w : World} (h : Below a.heap.size a w) (y0 y1 y2 y3 y4 : Value) : Below a.heap.size a (s5 w a.heap.size y0 y1 y2 y3 y4) :=
  k_set (k_set (k_set (k_set (k_set h (p := ⟨a.heap.size, 0, none⟩) (Nat.le_refl _) _) (p := ⟨a.heap.size, 1, none⟩) (Nat.le_refl _) _) (p := ⟨a.heap.size, 2, none⟩) (Nat.le_refl _) _) (p := ⟨a.heap.size, 3, none⟩) (Nat.le_refl _) _) (p := ⟨a.heap.size, 4, none⟩) (Nat.le_refl _) _
end Go.Proofs.Ytmdghonefdmihag
