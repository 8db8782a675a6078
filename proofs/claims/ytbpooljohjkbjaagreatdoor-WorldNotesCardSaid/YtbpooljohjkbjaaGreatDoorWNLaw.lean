/- The law WorldNotes. -/
import Derived.Test.YtbpooljohjkbjaaGreatDoorM16
import Derived.Test.YtbpooljohjkbjaaGreatDoorWNLawY
namespace Go.Proofs.YtbpooljohjkbjaaGreatDoor
open Go Go.RowKit
set_option maxRecDepth 100000
attribute [local go_sem ↓] Go.wp_at_zero Go.wp_at_succ
theorem wnotes_any (a b c d : Int) {w : World} (he : Env w) {va vk : Option Addr} {cp ck : Nat} {P : List (List Opn)} {K : List Int} (hP : PrsSl w (.slice va P.length cp) P) (hPB : ∀ L ∈ P, ∀ o ∈ L, o.B) (hPl : ∀ L ∈ P, L.length * 32 ≤ reachBytes) (hK : IntsSl w (.slice vk K.length ck) K) : Calls Tryz.prog 6 #[.agg #[.int .i64 a, .int .i64 b, .int .i64 c, .int .i64 d], .slice va P.length cp, .slice vk K.length ck] w fun e w' => e = .returned (.bool true) ∧ Below w.heap.size w w' := by
  by_cases hr : Right a b c d
  · by_cases hn : b < (P.length : Int)
    · exact wn_many a b c d he hP hr hn
    · obtain ⟨B, rfl⟩ : ∃ B : Nat, b = (B : Int) := ⟨b.toNat, by have := hr.2.2.1; omega⟩
      exact wn_yes a c d B hr he hP hPB (fun L hL => by have := hPl L hL; unfold reachBytes at this; omega) (by omega) hK
  · exact wn_no a b c d he hP hr
end Go.Proofs.YtbpooljohjkbjaaGreatDoor
