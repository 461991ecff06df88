import Derived.Test.YtapabahhfanmmaaDoorCAlike
import Derived.Test.YtapabahhfanmmaaDoorCLiftAlike
/- Alike: the card. -/
namespace Go.Proofs.YtapabahhfanmmaaDoor
theorem alike_holds : Rows.AlikeCardSaid := alike_card (fun W v0 v1 cs n f y h0 h1 hy hs => alike_walk W v0 v1 cs n f y h0 h1 hy hs)
#print axioms alike_holds
end Go.Proofs.YtapabahhfanmmaaDoor
