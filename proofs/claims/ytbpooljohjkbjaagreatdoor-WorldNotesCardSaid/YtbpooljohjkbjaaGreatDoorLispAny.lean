/- Whatever line of layer 14's own it is: what its function does. -/
import Derived.Shelf.Abstract
import Derived.Test.YtbpooljohjkbjaaGreatDoorM8
import Derived.Test.YtbpooljohjkbjaaGreatDoorLispOwnA
import Derived.Test.YtbpooljohjkbjaaGreatDoorLispOwnB
import Derived.Test.YtbpooljohjkbjaaGreatDoorLispOwnC
namespace Go.Proofs.YtbpooljohjkbjaaGreatDoor
open Go Go.RowKit
set_option maxRecDepth 100000
attribute [local go_sem ↓] Go.wp_at_zero Go.wp_at_succ
theorem own_any {w : World} {B H A G : Nat} {C : Cf} {m : Int} {s : Dy} {x : Mu} (h : WkAt w B H A G C m s x) {K : Nat} (hK : ownK x.l = some K) (hu : s.U) (hx : x.U) (hS : SpansAt w) (hq3 : x.q3 ≤ 9223372036854775807) :
    Calls Tryz.prog K #[.pointer (some ⟨B, 0, none⟩)] w (WPost w B H A G C m (.bool (ownS C s m x).2.2.1) (ownS C s m x).1 (ownS C s m x).2.1) := by
  unfold ownK at hK
  by_cases e40 : x.l = 40
  · rw [if_pos e40] at hK
    obtain rfl : 165 = K := Option.some.inj hK
    have hO := own_name h hu hx hS
    unfold ownS
    rw [if_neg (by omega)]; rw [if_neg (by omega)]; rw [if_neg (by omega)]; rw [if_neg (by omega)]; rw [if_neg (by omega)]; rw [if_neg (by omega)]; rw [if_neg (by omega)]; rw [if_neg (by omega)]; rw [if_neg (by omega)]; rw [if_neg (by omega)]; rw [if_neg (by omega)]; rw [if_neg (by omega)]; rw [if_neg (by omega)]; rw [if_neg (by omega)]; rw [if_neg (by omega)]; rw [if_neg (by omega)]; rw [if_neg (by omega)]; rw [if_neg (by omega)]; rw [if_neg (by omega)]; rw [if_pos e40]
    exact hO
  rw [if_neg e40] at hK
  by_cases e39 : x.l = 39
  · rw [if_pos e39] at hK
    obtain rfl : 164 = K := Option.some.inj hK
    have hO := own_fillCdr h hu hx hS
    unfold ownS
    rw [if_neg (by omega)]; rw [if_neg (by omega)]; rw [if_neg (by omega)]; rw [if_neg (by omega)]; rw [if_neg (by omega)]; rw [if_neg (by omega)]; rw [if_neg (by omega)]; rw [if_neg (by omega)]; rw [if_neg (by omega)]; rw [if_neg (by omega)]; rw [if_neg (by omega)]; rw [if_neg (by omega)]; rw [if_neg (by omega)]; rw [if_neg (by omega)]; rw [if_neg (by omega)]; rw [if_neg (by omega)]; rw [if_neg (by omega)]; rw [if_neg (by omega)]; rw [if_pos e39]
    exact hO
  rw [if_neg e39] at hK
  by_cases e38 : x.l = 38
  · rw [if_pos e38] at hK
    obtain rfl : 163 = K := Option.some.inj hK
    have hO := own_fill h hu hx hS
    unfold ownS
    rw [if_neg (by omega)]; rw [if_neg (by omega)]; rw [if_neg (by omega)]; rw [if_neg (by omega)]; rw [if_neg (by omega)]; rw [if_neg (by omega)]; rw [if_neg (by omega)]; rw [if_neg (by omega)]; rw [if_neg (by omega)]; rw [if_neg (by omega)]; rw [if_neg (by omega)]; rw [if_neg (by omega)]; rw [if_neg (by omega)]; rw [if_neg (by omega)]; rw [if_neg (by omega)]; rw [if_neg (by omega)]; rw [if_neg (by omega)]; rw [if_pos e38]
    exact hO
  rw [if_neg e38] at hK
  by_cases e31 : x.l = 31
  · rw [if_pos e31] at hK
    obtain rfl : 162 = K := Option.some.inj hK
    have hO := own_second h hu hx hS
    unfold ownS
    rw [if_neg (by omega)]; rw [if_neg (by omega)]; rw [if_neg (by omega)]; rw [if_neg (by omega)]; rw [if_neg (by omega)]; rw [if_neg (by omega)]; rw [if_neg (by omega)]; rw [if_neg (by omega)]; rw [if_neg (by omega)]; rw [if_neg (by omega)]; rw [if_neg (by omega)]; rw [if_neg (by omega)]; rw [if_neg (by omega)]; rw [if_neg (by omega)]; rw [if_neg (by omega)]; rw [if_neg (by omega)]; rw [if_pos e31]
    exact hO
  rw [if_neg e31] at hK
  by_cases e30 : x.l = 30
  · rw [if_pos e30] at hK
    obtain rfl : 161 = K := Option.some.inj hK
    have hO := own_first h hu hx hS
    unfold ownS
    rw [if_neg (by omega)]; rw [if_neg (by omega)]; rw [if_neg (by omega)]; rw [if_neg (by omega)]; rw [if_neg (by omega)]; rw [if_neg (by omega)]; rw [if_neg (by omega)]; rw [if_neg (by omega)]; rw [if_neg (by omega)]; rw [if_neg (by omega)]; rw [if_neg (by omega)]; rw [if_neg (by omega)]; rw [if_neg (by omega)]; rw [if_neg (by omega)]; rw [if_neg (by omega)]; rw [if_pos e30]
    exact hO
  rw [if_neg e30] at hK
  by_cases e24 : x.l = 24
  · rw [if_pos e24] at hK
    obtain rfl : 160 = K := Option.some.inj hK
    have hO := own_atom h hu hx hS
    unfold ownS
    rw [if_neg (by omega)]; rw [if_neg (by omega)]; rw [if_neg (by omega)]; rw [if_neg (by omega)]; rw [if_neg (by omega)]; rw [if_neg (by omega)]; rw [if_neg (by omega)]; rw [if_neg (by omega)]; rw [if_neg (by omega)]; rw [if_neg (by omega)]; rw [if_neg (by omega)]; rw [if_neg (by omega)]; rw [if_neg (by omega)]; rw [if_neg (by omega)]; rw [if_pos e24]
    exact hO
  rw [if_neg e24] at hK
  by_cases e23 : x.l = 23
  · rw [if_pos e23] at hK
    obtain rfl : 159 = K := Option.some.inj hK
    have hO := own_same h hu hx hS
    unfold ownS
    rw [if_neg (by omega)]; rw [if_neg (by omega)]; rw [if_neg (by omega)]; rw [if_neg (by omega)]; rw [if_neg (by omega)]; rw [if_neg (by omega)]; rw [if_neg (by omega)]; rw [if_neg (by omega)]; rw [if_neg (by omega)]; rw [if_neg (by omega)]; rw [if_neg (by omega)]; rw [if_neg (by omega)]; rw [if_neg (by omega)]; rw [if_pos e23]
    exact hO
  rw [if_neg e23] at hK
  by_cases e22 : x.l = 22
  · rw [if_pos e22] at hK
    obtain rfl : 158 = K := Option.some.inj hK
    have hO := own_eq h hu hx hS
    unfold ownS
    rw [if_neg (by omega)]; rw [if_neg (by omega)]; rw [if_neg (by omega)]; rw [if_neg (by omega)]; rw [if_neg (by omega)]; rw [if_neg (by omega)]; rw [if_neg (by omega)]; rw [if_neg (by omega)]; rw [if_neg (by omega)]; rw [if_neg (by omega)]; rw [if_neg (by omega)]; rw [if_neg (by omega)]; rw [if_pos e22]
    exact hO
  rw [if_neg e22] at hK
  by_cases e21 : x.l = 21
  · rw [if_pos e21] at hK
    obtain rfl : 157 = K := Option.some.inj hK
    have hO := own_glob h hu hx hS
    unfold ownS
    rw [if_neg (by omega)]; rw [if_neg (by omega)]; rw [if_neg (by omega)]; rw [if_neg (by omega)]; rw [if_neg (by omega)]; rw [if_neg (by omega)]; rw [if_neg (by omega)]; rw [if_neg (by omega)]; rw [if_neg (by omega)]; rw [if_neg (by omega)]; rw [if_neg (by omega)]; rw [if_pos e21]
    exact hO
  rw [if_neg e21] at hK
  by_cases e20 : x.l = 20
  · rw [if_pos e20] at hK
    obtain rfl : 156 = K := Option.some.inj hK
    have hO := own_put h hu hx hS
    unfold ownS
    rw [if_neg (by omega)]; rw [if_neg (by omega)]; rw [if_neg (by omega)]; rw [if_neg (by omega)]; rw [if_neg (by omega)]; rw [if_neg (by omega)]; rw [if_neg (by omega)]; rw [if_neg (by omega)]; rw [if_neg (by omega)]; rw [if_neg (by omega)]; rw [if_pos e20]
    exact hO
  rw [if_neg e20] at hK
  by_cases e19 : x.l = 19
  · rw [if_pos e19] at hK
    obtain rfl : 155 = K := Option.some.inj hK
    have hO := own_get h hu hx hS
    unfold ownS
    rw [if_neg (by omega)]; rw [if_neg (by omega)]; rw [if_neg (by omega)]; rw [if_neg (by omega)]; rw [if_neg (by omega)]; rw [if_neg (by omega)]; rw [if_neg (by omega)]; rw [if_neg (by omega)]; rw [if_neg (by omega)]; rw [if_pos e19]
    exact hO
  rw [if_neg e19] at hK
  by_cases e18 : x.l = 18
  · rw [if_pos e18] at hK
    obtain rfl : 154 = K := Option.some.inj hK
    have hO := own_replace h hu hx hS
    unfold ownS
    rw [if_neg (by omega)]; rw [if_neg (by omega)]; rw [if_neg (by omega)]; rw [if_neg (by omega)]; rw [if_neg (by omega)]; rw [if_neg (by omega)]; rw [if_neg (by omega)]; rw [if_neg (by omega)]; rw [if_pos e18]
    exact hO
  rw [if_neg e18] at hK
  by_cases e17 : x.l = 17
  · rw [if_pos e17] at hK
    obtain rfl : 153 = K := Option.some.inj hK
    have hO := own_what h hu hx hS
    unfold ownS
    rw [if_neg (by omega)]; rw [if_neg (by omega)]; rw [if_neg (by omega)]; rw [if_neg (by omega)]; rw [if_neg (by omega)]; rw [if_neg (by omega)]; rw [if_neg (by omega)]; rw [if_pos e17]
    exact hO
  rw [if_neg e17] at hK
  by_cases e16 : x.l = 16
  · rw [if_pos e16] at hK
    obtain rfl : 152 = K := Option.some.inj hK
    have hO := own_into h hu hx hS
    unfold ownS
    rw [if_neg (by omega)]; rw [if_neg (by omega)]; rw [if_neg (by omega)]; rw [if_neg (by omega)]; rw [if_neg (by omega)]; rw [if_neg (by omega)]; rw [if_pos e16]
    exact hO
  rw [if_neg e16] at hK
  by_cases e15 : x.l = 15
  · rw [if_pos e15] at hK
    obtain rfl : 151 = K := Option.some.inj hK
    have hO := own_bring h hu hx hS
    unfold ownS
    rw [if_neg (by omega)]; rw [if_neg (by omega)]; rw [if_neg (by omega)]; rw [if_neg (by omega)]; rw [if_neg (by omega)]; rw [if_pos e15]
    exact hO
  rw [if_neg e15] at hK
  by_cases e14 : x.l = 14
  · rw [if_pos e14] at hK
    obtain rfl : 150 = K := Option.some.inj hK
    have hO := own_part h hu hx hS
    unfold ownS
    rw [if_neg (by omega)]; rw [if_neg (by omega)]; rw [if_neg (by omega)]; rw [if_neg (by omega)]; rw [if_pos e14]
    exact hO
  rw [if_neg e14] at hK
  by_cases e13 : x.l = 13
  · rw [if_pos e13] at hK
    obtain rfl : 149 = K := Option.some.inj hK
    have hO := own_out h hu hx hS
    unfold ownS
    rw [if_neg (by omega)]; rw [if_neg (by omega)]; rw [if_neg (by omega)]; rw [if_pos e13]
    exact hO
  rw [if_neg e13] at hK
  by_cases e12 : x.l = 12
  · rw [if_pos e12] at hK
    obtain rfl : 148 = K := Option.some.inj hK
    have hO := own_moved h hu hx hS
    unfold ownS
    rw [if_neg (by omega)]; rw [if_neg (by omega)]; rw [if_pos e12]
    exact hO
  rw [if_neg e12] at hK
  by_cases e11 : x.l = 11
  · rw [if_pos e11] at hK
    obtain rfl : 147 = K := Option.some.inj hK
    have hO := own_move h hu hx hS
    unfold ownS
    rw [if_neg (by omega)]; rw [if_pos e11]
    exact hO
  rw [if_neg e11] at hK
  by_cases e10 : x.l = 10
  · rw [if_pos e10] at hK
    obtain rfl : 146 = K := Option.some.inj hK
    have hO := own_set h hu hx hS hq3
    unfold ownS
    rw [if_pos e10]
    exact hO
  rw [if_neg e10] at hK
  cases hK
theorem own_enters {l : Int} {KF : Nat} (hK : ownK l = some KF) (args : Array Value) (w : World) : (callFunc KF args).run Tryz.prog w = .ok (.enter KF args) w := by
  unfold ownK at hK
  by_cases e40 : l = 40
  · rw [if_pos e40] at hK
    obtain rfl : 165 = KF := Option.some.inj hK
    exact enters_of Tryz.func165 (by kernel_rfl) rfl args w
  rw [if_neg e40] at hK
  by_cases e39 : l = 39
  · rw [if_pos e39] at hK
    obtain rfl : 164 = KF := Option.some.inj hK
    exact enters_of Tryz.func164 (by kernel_rfl) rfl args w
  rw [if_neg e39] at hK
  by_cases e38 : l = 38
  · rw [if_pos e38] at hK
    obtain rfl : 163 = KF := Option.some.inj hK
    exact enters_of Tryz.func163 (by kernel_rfl) rfl args w
  rw [if_neg e38] at hK
  by_cases e31 : l = 31
  · rw [if_pos e31] at hK
    obtain rfl : 162 = KF := Option.some.inj hK
    exact enters_of Tryz.func162 (by kernel_rfl) rfl args w
  rw [if_neg e31] at hK
  by_cases e30 : l = 30
  · rw [if_pos e30] at hK
    obtain rfl : 161 = KF := Option.some.inj hK
    exact enters_of Tryz.func161 (by kernel_rfl) rfl args w
  rw [if_neg e30] at hK
  by_cases e24 : l = 24
  · rw [if_pos e24] at hK
    obtain rfl : 160 = KF := Option.some.inj hK
    exact enters_of Tryz.func160 (by kernel_rfl) rfl args w
  rw [if_neg e24] at hK
  by_cases e23 : l = 23
  · rw [if_pos e23] at hK
    obtain rfl : 159 = KF := Option.some.inj hK
    exact enters_of Tryz.func159 (by kernel_rfl) rfl args w
  rw [if_neg e23] at hK
  by_cases e22 : l = 22
  · rw [if_pos e22] at hK
    obtain rfl : 158 = KF := Option.some.inj hK
    exact enters_of Tryz.func158 (by kernel_rfl) rfl args w
  rw [if_neg e22] at hK
  by_cases e21 : l = 21
  · rw [if_pos e21] at hK
    obtain rfl : 157 = KF := Option.some.inj hK
    exact enters_of Tryz.func157 (by kernel_rfl) rfl args w
  rw [if_neg e21] at hK
  by_cases e20 : l = 20
  · rw [if_pos e20] at hK
    obtain rfl : 156 = KF := Option.some.inj hK
    exact enters_of Tryz.func156 (by kernel_rfl) rfl args w
  rw [if_neg e20] at hK
  by_cases e19 : l = 19
  · rw [if_pos e19] at hK
    obtain rfl : 155 = KF := Option.some.inj hK
    exact enters_of Tryz.func155 (by kernel_rfl) rfl args w
  rw [if_neg e19] at hK
  by_cases e18 : l = 18
  · rw [if_pos e18] at hK
    obtain rfl : 154 = KF := Option.some.inj hK
    exact enters_of Tryz.func154 (by kernel_rfl) rfl args w
  rw [if_neg e18] at hK
  by_cases e17 : l = 17
  · rw [if_pos e17] at hK
    obtain rfl : 153 = KF := Option.some.inj hK
    exact enters_of Tryz.func153 (by kernel_rfl) rfl args w
  rw [if_neg e17] at hK
  by_cases e16 : l = 16
  · rw [if_pos e16] at hK
    obtain rfl : 152 = KF := Option.some.inj hK
    exact enters_of Tryz.func152 (by kernel_rfl) rfl args w
  rw [if_neg e16] at hK
  by_cases e15 : l = 15
  · rw [if_pos e15] at hK
    obtain rfl : 151 = KF := Option.some.inj hK
    exact enters_of Tryz.func151 (by kernel_rfl) rfl args w
  rw [if_neg e15] at hK
  by_cases e14 : l = 14
  · rw [if_pos e14] at hK
    obtain rfl : 150 = KF := Option.some.inj hK
    exact enters_of Tryz.func150 (by kernel_rfl) rfl args w
  rw [if_neg e14] at hK
  by_cases e13 : l = 13
  · rw [if_pos e13] at hK
    obtain rfl : 149 = KF := Option.some.inj hK
    exact enters_of Tryz.func149 (by kernel_rfl) rfl args w
  rw [if_neg e13] at hK
  by_cases e12 : l = 12
  · rw [if_pos e12] at hK
    obtain rfl : 148 = KF := Option.some.inj hK
    exact enters_of Tryz.func148 (by kernel_rfl) rfl args w
  rw [if_neg e12] at hK
  by_cases e11 : l = 11
  · rw [if_pos e11] at hK
    obtain rfl : 147 = KF := Option.some.inj hK
    exact enters_of Tryz.func147 (by kernel_rfl) rfl args w
  rw [if_neg e11] at hK
  by_cases e10 : l = 10
  · rw [if_pos e10] at hK
    obtain rfl : 146 = KF := Option.some.inj hK
    exact enters_of Tryz.func146 (by kernel_rfl) rfl args w
  rw [if_neg e10] at hK
  cases hK
end Go.Proofs.YtbpooljohjkbjaaGreatDoor
