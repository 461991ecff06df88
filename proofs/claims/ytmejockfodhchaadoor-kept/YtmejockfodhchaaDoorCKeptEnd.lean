import Derived.Test.YtmejockfodhchaaDoorCKept
import Derived.Test.YtmejockfodhchaaDoorCLiftKept
/- Kept: the card. -/
namespace Go.Proofs.YtmejockfodhchaaDoor
theorem kept_holds : Rows.KeptCardSaid := kept_card (fun W v0 v1 cs n f h0 h1 hs => kept_walk W v0 v1 cs n f h0 h1 hs)
#print axioms kept_holds
end Go.Proofs.YtmejockfodhchaaDoor
