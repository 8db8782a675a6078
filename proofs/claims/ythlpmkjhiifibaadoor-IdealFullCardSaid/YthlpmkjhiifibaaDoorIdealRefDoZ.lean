/- The document's Do: of every operation. -/
import Derived.Test.YthlpmkjhiifibaaDoorIdealRefDoA
import Derived.Test.YthlpmkjhiifibaaDoorIdealRefDoB
import Derived.Test.YthlpmkjhiifibaaDoorIdealRefDoC
import Derived.Test.YthlpmkjhiifibaaDoorIdealRefDoD
import Derived.Test.YthlpmkjhiifibaaDoorIdealRefDoE
namespace Go.Proofs.YthlpmkjhiifibaaDoor
open Go Go.RowKit
set_option maxRecDepth 100000
attribute [local go_sem ↓] Go.wp_at_zero Go.wp_at_succ
section
variable {w : World} {Y : Nat} {u : Value} {b c d : Nat} {s : St} {N : Nat}
/-- The document's Do, of every mutator and every operation. -/
theorem refDo_c (h : DocAt w Y u b c d s N) (hi : Inv b c d s) (m k x y z : Int) (hx : inI x) (hy : inI y) (hz : inI z) (full : Bool) (hN : N + 3 ≤ 100000) (hn : s.n + 1 ≤ 1000000) : Calls Tryd.prog 13 #[.pointer (some ⟨Y, 0, none⟩), .int .i64 m, .agg #[.int .i64 k, .int .i64 x, .int .i64 y, .int .i64 z], .bool full] w (PutPost w Y u b c d (doS b c d s m k x y z full) (N + 3) (.int .i64 (doR b c d s m k x y z full))) := by
  unfold doS doR
  by_cases hg : goodOp b c d m k x y z
  · rw [if_pos hg, if_pos hg]
    obtain ⟨j, rfl, h1, h2⟩ := hg.right.1.nat
    obtain rfl | rfl | rfl | rfl | rfl | rfl | rfl | rfl | rfl | rfl | rfl := kind_cases h1 h2
    · exact refDo_1 h hi m x y z hx hy hz full hN hn hg
    · exact refDo_2 h hi m x y z hx hy hz full hN hn hg
    · exact refDo_3 h hi m x y z hx hy hz full hN hn hg
    · exact refDo_4 h hi m x y z hx hy hz full hN hn hg
    · exact refDo_5 h hi m x y z hx hy hz full hN hn hg
    · exact refDo_6 h hi m x y z hx hy hz full hN hn hg
    · exact refDo_7 h hi m x y z hx hy hz full hN hn hg
    · exact refDo_8 h hi m x y z hx hy hz full hN hn hg
    · exact refDo_9 h hi m x y z hx hy hz full hN hn hg
    · exact refDo_10 h hi m x y z hx hy hz full hN hn hg
    · exact refDo_11 h hi m x y z hx hy hz full hN hn hg
  · rw [if_neg hg, if_neg hg]
    by_cases h0 : m < 0
    · exact (refDo_neg h m k x y z full h0).mono fun _ _ q => q.more (by omega) hN
    · obtain ⟨q, rfl⟩ := nat_of' (show 0 ≤ m by omega)
      by_cases hm : q < b
      · exact (refDo_notRight h q k x y z hx hy hz full hm (fun e => hg ⟨by omega, by omega, e⟩)).mono fun _ _ q => q.more (by omega) hN
      · exact (refDo_past h q k x y z full (by omega)).mono fun _ _ q => q.more (by omega) hN
end
end Go.Proofs.YthlpmkjhiifibaaDoor
