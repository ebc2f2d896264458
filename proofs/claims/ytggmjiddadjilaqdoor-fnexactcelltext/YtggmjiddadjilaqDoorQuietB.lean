/-
  PROVED HERE: a region that draws its order, whose own operations only read and whose callees turn nothing that was in memory, may be walked once, in its text's order.
-/
import Derived.Test.YtggmjiddadjilaqDoorKit
import Derived.Deep.QuietTactic
import Derived.BigQuiet
namespace Go.Proofs.YtggmjiddadjilaqDoor
open Go.RowKit

/-- a world in which what was in memory is as it was -/
structure BW (w : World) where
  u : World
  h : Below w.heap.size w u
theorem bw_some (w : World) : Nonempty (BW w) := ⟨⟨w, Below.refl _ _⟩⟩
theorem wp_region_quiet_below {P : Program} {id : Nat} {Q : Exit → Act → World → Prop} {a : Act} {w : World} {l : List Oper} (hm : P.follows .mixedOrders = true) (hB : Region.lexB .any l.toArray = true)
    (h : wpQuiet P l.toArray (fun w' => ∃ p : BW w, w' = p.u) (fun a' => ∀ w', (∃ p : BW w, w' = p.u) → Q .normal a' w') l a) : (Code.region id l.toArray true).wp P Q a w :=
  wp_region_quiet (C := fun w' => ∃ p : BW w, w' = p.u) hm hB ⟨⟨_, k_drew (Below.refl _ _)⟩, rfl⟩ (by simpa using h)
theorem bw_of {P : Program} {f : FuncId} {args : Array Value} {w : World} {p : BW w} {v : Value} (h : Calls P f args p.u fun e w' => e = .returned v ∧ Below p.u.heap.size p.u w') :
    Calls P f args p.u fun e w'' => e = .returned v ∧ ∃ p : BW w, w'' = p.u :=
  h.mono fun _ _ ⟨he, hb⟩ => ⟨he, ⟨_, k_trans p.h hb⟩, rfl⟩
theorem bw_same {P : Program} {f : FuncId} {args : Array Value} {w : World} {p : BW w} {v : Value} (h : Calls P f args p.u fun e w' => e = .returned v ∧ w' = p.u) :
    Calls P f args p.u fun e w'' => e = .returned v ∧ ∃ p : BW w, w'' = p.u :=
  h.mono fun _ _ ⟨he, hb⟩ => ⟨he, p, hb⟩
theorem bw_cell {w : World} {a : Addr} {v : Value} (hb : a.block < w.heap.size) (h : w.cell? a = some v) (p : BW w) : p.u.cell? a = some v := (p.h.cell hb).trans h
end Go.Proofs.YtggmjiddadjilaqDoor
