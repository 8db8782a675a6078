/- The ideal store as a function of the place: what an operation makes of it, its result, and what always holds of it. -/
import Derived.Test.YtbpooljohjkbjaaGreatDoorM4
namespace Go.Proofs.YtbpooljohjkbjaaGreatDoor
open Go Go.RowKit
set_option maxRecDepth 100000
end Go.Proofs.YtbpooljohjkbjaaGreatDoor
