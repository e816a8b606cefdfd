/-
  The nearest number.
-/
import Derived.Test.YtkmcnkonkalfkaaDoorDK1
namespace Go.Proofs.YtkmcnkonkalfkaaDoor
open Go.RowKit

set_option maxHeartbeats 1000000 in
theorem nearest_any (x : Int) (m : Nat) (w : World) :
    Calls Tryd.prog 47 #[.int .i64 x, .int .i64 (m : Int)] w fun e w' => e = .returned (.int .i64 ((min x.toNat m : Nat) : Int)) ∧ w' = w := by
  by_cases h0 : x < 0
  · have h1 : x ≤ 0 := by omega
    have h2 : ¬ (0 < x) := by omega
    have h3 : ¬ ((m : Int) < 0) := by omega
    go_enter Tryd.func47, Tryd.ntmps47
    go_wp2
    go_ret
    refine ⟨?_, rfl⟩
    rw [show (min x.toNat m : Nat) = 0 by omega]
    rfl
  · by_cases h1 : (m : Int) < x
    · have h2 : ¬ (x < (m : Int)) := by omega
      go_enter Tryd.func47, Tryd.ntmps47
      go_wp2
      go_ret
      refine ⟨?_, rfl⟩
      rfl
    · obtain ⟨y, rfl⟩ := Int.eq_ofNat_of_zero_le (show 0 ≤ x by omega)
      go_enter Tryd.func47, Tryd.ntmps47
      go_wp2
      go_ret
      refine ⟨?_, rfl⟩
      rw [show (min y m : Nat) = y by omega]
      rfl

theorem nearest_int (x m : Int) (w : World) (hm : 0 ≤ m) :
    Calls Tryd.prog 47 #[.int .i64 x, .int .i64 m] w fun e w' => e = .returned (.int .i64 ((min x.toNat m.toNat : Nat) : Int)) ∧ w' = w := by
  obtain ⟨k, rfl⟩ := Int.eq_ofNat_of_zero_le hm
  exact nearest_any x k w

end Go.Proofs.YtkmcnkonkalfkaaDoor
