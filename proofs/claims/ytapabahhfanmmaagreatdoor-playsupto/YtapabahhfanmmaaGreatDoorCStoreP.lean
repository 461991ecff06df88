import Derived.Test.YtapabahhfanmmaaGreatDoorCLeaf
import Derived.Laws.Bits64b
import Derived.Maps.AppendAt
import Derived.ArgAppend
import Derived.Lib.AppendStr
import Derived.Laws.IdiomCopy
import Derived.Test.YtapabahhfanmmaaGreatDoorCBfs
namespace Go.Proofs.YtapabahhfanmmaaGreatDoor
open Go.RowKit
end Go.Proofs.YtapabahhfanmmaaGreatDoor
namespace Go.Proofs.YtapabahhfanmmaaGreatDoor
open Go.RowKit Go.Lib
theorem setCell_heap {w : World} {b o : Nat} {cs : Array Value} {ty : TypeId} {fz : Nat × Nat} (h : w.heap[b]? = some (.cells cs ty fz)) (v : Value) : (w.setCell ⟨b, o, none⟩ v).heap[b]? = some (.cells (cs.setIfInBounds o v) ty fz) := by
  rw [setCell_eq_setRow w b o cs ty fz v h]
  exact setRow_heap w b cs _ ty fz h
end Go.Proofs.YtapabahhfanmmaaGreatDoor
