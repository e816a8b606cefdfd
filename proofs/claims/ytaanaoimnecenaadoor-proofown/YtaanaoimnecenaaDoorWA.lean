/-
  The walks of the small functions over words: turning bits round, one round.
-/
import Derived.Test.YtaanaoimnecenaaDoorW1
import Derived.Test.YtaanaoimnecenaaDoorPureS
import Derived.Laws.ShiftsVarLaws
namespace Go.Proofs.YtaanaoimnecenaaDoor
open Go.RowKit

theorem neg_and31 (n : Nat) (h0 : 0 < n) (h : n < 32) : bits .and .u64 (IntKind.u64.wrap (-(n : Int))) 31 = ((32 - n : Nat) : Int) := by
  have e : IntKind.u64.wrap (-(n : Int)) = ((18446744073709551616 - n : Nat) : Int) := by
    simp only [IntKind.wrap, IntKind.bits, IntKind.signed, Bool.false_and]
    have : ((2 : Int) ^ 64) = 18446744073709551616 := by decide
    rw [this]
    simp
    omega
  rw [e]
  have := u64_and_nat (18446744073709551616 - n) 31 (by omega) (by omega)
  rw [show ((31 : Nat) : Int) = 31 from rfl] at this
  rw [this, nat_mask5]
  omega

theorem U_add' (a b : BitVec 32) : (U a + U b) % 4294967296 = U (a + b) := by rw [← U_add, IntKind.wrap_u32']
theorem U_shl' (a : BitVec 32) (n : Nat) : U a * 2 ^ n % 4294967296 = U (a <<< n) := by rw [← U_shl, IntKind.wrap_u32']
theorem U_sub_not' (a : BitVec 32) : (4294967295 - U a) % 4294967296 = U (~~~a) := by rw [← U_sub_not, IntKind.wrap_u32']

set_option maxHeartbeats 400000 in
theorem rotl_any (x : BitVec 32) (n : Nat) (w : World) (h0 : 0 < n) (h : n < 32) :
    Calls Tryd.prog 124 #[.int .u32 (U x), .int .i64 (-(n : Int))] w fun e w' => e = .returned (.int .u32 (U (ror x n))) ∧ w = w' := by
  have hn := neg_and31 n h0 h
  go_enter Tryd.func124, Tryd.ntmps124
  go_wp2
  go_ret
  have e : 32 - (32 - n) = n := by omega
  refine ⟨?_, rfl⟩
  rw [e, U_shl', U_shr, U_or, ror_eq']
  rfl

set_option maxHeartbeats 400000 in
theorem right_any (x : BitVec 32) (n : Nat) (w : World) (h0 : 0 < n) (h : n < 32) :
    Calls Tryd.prog 123 #[.int .u32 (U x), .int .i64 (n : Int)] w fun e w' => e = .returned (.int .u32 (U (ror x n))) ∧ w = w' := by
  go_enter Tryd.func123, Tryd.ntmps123
  go_wp2_with fail
  refine (rotl_any x n _ h0 h).mono ?_
  rintro e w' ⟨rfl, rfl⟩
  go_wp2
  go_ret
  exact ⟨rfl, rfl⟩

set_option maxHeartbeats 400000 in
theorem turn_any (x : BitVec 32) (n : Nat) (w : World) (h0 : 0 < n) (h : n < 32) :
    Calls Tryd.prog 70 #[.int .u32 (U x), .int .i64 (n : Int)] w fun e w' => e = .returned (.int .u32 (U (ror x n))) ∧ ∃ k, w' = w.drewN k := by
  go_enter Tryd.func70, Tryd.ntmps70
  go_wp2
  go_quiet (fail)
  go_wp2
  go_ret
  refine ⟨?_, _, rfl⟩
  rw [U_shl', U_shr, U_or]
  rfl

theorem right_at (x : BitVec 32) (z : Int) (n : Nat) (w : World) (hz : z = (n : Int)) (h0 : 0 < n) (h : n < 32) :
    Calls Tryd.prog 123 #[.int .u32 (U x), .int .i64 z] w fun e w' => e = .returned (.int .u32 (U (ror x n))) ∧ w = w' := by
  subst hz
  exact right_any x n w h0 h
theorem turn_at (x : BitVec 32) (z : Int) (n : Nat) (w : World) (hz : z = (n : Int)) (h0 : 0 < n) (h : n < 32) :
    Calls Tryd.prog 70 #[.int .u32 (U x), .int .i64 z] w fun e w' => e = .returned (.int .u32 (U (ror x n))) ∧ ∃ k, w' = w.drewN k := by
  subst hz
  exact turn_any x n w h0 h

end Go.Proofs.YtaanaoimnecenaaDoor
