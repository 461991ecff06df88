import Derived.Test.YtapabahhfanmmaaDoorCKept
import Derived.Test.YtapabahhfanmmaaDoorCLiftKept
/- Kept: the card. -/
namespace Go.Proofs.YtapabahhfanmmaaDoor
theorem kept_holds : Rows.KeptCardSaid := kept_card (fun W v0 v1 cs n f h0 h1 hs => kept_walk W v0 v1 cs n f h0 h1 hs)
#print axioms kept_holds
end Go.Proofs.YtapabahhfanmmaaDoor
