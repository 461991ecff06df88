import Derived.Test.YtapabahhfanmmaaDoorCWay
import Derived.Test.YtapabahhfanmmaaDoorCLiftWay
/- Way: the card. -/
namespace Go.Proofs.YtapabahhfanmmaaDoor
theorem way_holds : Rows.WayCardSaid := way_card (fun W v0 cs x y h0 hx hy hs => way_walk W v0 cs x y h0 hx hy hs)
#print axioms way_holds
end Go.Proofs.YtapabahhfanmmaaDoor
