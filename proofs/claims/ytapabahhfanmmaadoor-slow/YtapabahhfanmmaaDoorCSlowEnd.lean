import Derived.Test.YtapabahhfanmmaaDoorCSlow
import Derived.Test.YtapabahhfanmmaaDoorCLiftSlow
/- Slow: the card. -/
namespace Go.Proofs.YtapabahhfanmmaaDoor
theorem slow_holds : Rows.SlowCardSaid := slow_card (fun W v0 v1 cs n f h0 h1 hs => slow_walk W v0 v1 cs n f h0 h1 hs)
#print axioms slow_holds
end Go.Proofs.YtapabahhfanmmaaDoor
