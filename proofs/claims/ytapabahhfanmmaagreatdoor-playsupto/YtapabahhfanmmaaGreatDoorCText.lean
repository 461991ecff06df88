import Derived.Test.YtapabahhfanmmaaGreatDoorCLeaf
import Derived.Laws.Concat
namespace Go.Proofs.YtapabahhfanmmaaGreatDoor
open Go.RowKit
end Go.Proofs.YtapabahhfanmmaaGreatDoor
