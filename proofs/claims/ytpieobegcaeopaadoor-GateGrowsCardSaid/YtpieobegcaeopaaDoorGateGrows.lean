/- GateGrows answers true. -/
import Derived.Test.YtpieobegcaeopaaDoorGateGrowsW
import Derived.Test.YtpieobegcaeopaaDoorGateGrowsZ
namespace Go.Proofs.YtpieobegcaeopaaDoor
open Go Go.RowKit
set_option maxRecDepth 100000
attribute [local go_sem ↓] Go.wp_at_zero Go.wp_at_succ

theorem grows_any (fr : Nat) (hfr : fr < 18446744073709551616) (wb : Nat) (hwb : wb < 256) (w : World) (hS : SpansAt w) :
    Calls Tryd.prog 4 #[.int .u64 (fr : Int), .int .u8 (wb : Int)] w fun e w' => e = .returned (.bool true) ∧ Below w.heap.size w w' := by
  by_cases h : wb % 100 = 0
  · exact grows_zero fr hfr wb hwb h w hS
  · exact grows_wait fr hfr wb hwb (by omega) w hS
end Go.Proofs.YtpieobegcaeopaaDoor
