/-
  The walk of the document's table of the rounds' numbers.
-/
import Derived.Test.YtaanaoimnecenaaDoorWA8
import Derived.Deep.RegionLaw
import Derived.Lib.Strings
import Derived.Lib.SmallJoins
import Derived.WideShapes
namespace Go.Proofs.YtaanaoimnecenaaDoor
open Go.RowKit

theorem turn_z (x : BitVec 32) (z : Int) (w : World) (h0 : 0 < z) (h : z < 32) :
    Calls Tryd.prog 70 #[.int .u32 (U x), .int .i64 z] w fun e w' => e = .returned (.int .u32 (U (ror x z.toNat))) ∧ ∃ k, w' = w.drewN k :=
  turn_at x z z.toNat w (by omega) (by omega) (by omega)

set_option maxRecDepth 8000 in
set_option maxHeartbeats 4000000 in
theorem constants_any (w : World) :
    Calls Tryd.prog 67 #[] w fun e w' => e = .returned (.agg (cellsU kTab).toArray) ∧ Below w.heap.size w w' := by
  go_enter Tryd.func67, Tryd.ntmps67
  go_wp2_with (refine wpList_store_arr _ _ rfl (.tmp 0) (.tmp 1) _ _ _ at43 rfl _ _ rfl _ rfl rfl (run_storeCells_newAt _ _ _ kTab _ rfl sz43 rfl) ?_)
  refine bodyPost_ret (v := .agg (cellsU kTab).toArray) ?_ rfl ⟨rfl, ?_⟩
  · exact results_arr _ Tryd.results67 _ at43 _ _ rfl _ (run_loadCellsFrom_new _ _ _ _ rfl)
  · exact (Below.refl _ _).alloc (Nat.le_refl _) _

end Go.Proofs.YtaanaoimnecenaaDoor
