/-
  The walk of one round.
-/
import Derived.Test.YtaanaoimnecenaaDoorWA
namespace Go.Proofs.YtaanaoimnecenaaDoor
open Go.RowKit

theorem Below.drewN' {B : Nat} {a w : World} (h : Below B a w) (k : Nat) : Below B a (w.drewN k) := ⟨h.os, h.tape, h.output, h.size, h.block⟩

set_option maxRecDepth 8000 in
set_option maxHeartbeats 4000000 in
theorem round_any (s : S8) (x : BitVec 32) (w : World) :
    Calls Tryd.prog 120 #[.agg #[.int .u32 (U s.a), .int .u32 (U s.b), .int .u32 (U s.c), .int .u32 (U s.d), .int .u32 (U s.e), .int .u32 (U s.f), .int .u32 (U s.g), .int .u32 (U s.h)], .int .u32 (U x)] w fun e w' =>
      e = .returned (.agg #[.int .u32 (U (rnd s x).a), .int .u32 (U (rnd s x).b), .int .u32 (U (rnd s x).c), .int .u32 (U (rnd s x).d), .int .u32 (U (rnd s x).e), .int .u32 (U (rnd s x).f), .int .u32 (U (rnd s x).g), .int .u32 (U (rnd s x).h)]) ∧ Below w.heap.size w w' := by
  obtain ⟨a, b, c, d, e, f, g, h⟩ := s
  dsimp only [rnd]
  have kx := U_xor
  have ka := U_and
  have kp := U_add'
  have kn := U_not
  have hsg : IntKind.u32.signed = false := rfl
  have hmx : IntKind.u32.max = 4294967295 := by decide
  go_enter Tryd.func120, Tryd.ntmps120
  go_wp2
  go_quiet (fail)
  go_wp2_with fail
  refine (right_at e _ 6 _ rfl (by omega) (by omega)).mono ?_
  rintro _ _ ⟨rfl, rfl⟩
  go_wp2_with fail
  refine (right_at e _ 11 _ rfl (by omega) (by omega)).mono ?_
  rintro _ _ ⟨rfl, rfl⟩
  go_wp2_with fail
  refine (right_at e _ 25 _ rfl (by omega) (by omega)).mono ?_
  rintro _ _ ⟨rfl, rfl⟩
  go_wp2_with fail
  refine (right_at a _ 2 _ rfl (by omega) (by omega)).mono ?_
  rintro _ _ ⟨rfl, rfl⟩
  go_wp2_with fail
  refine (right_at a _ 13 _ rfl (by omega) (by omega)).mono ?_
  rintro _ _ ⟨rfl, rfl⟩
  go_wp2_with fail
  refine (right_at a _ 22 _ rfl (by omega) (by omega)).mono ?_
  rintro _ _ ⟨rfl, rfl⟩
  go_wp2
  refine bodyPost_ret (v := .agg #[.int .u32 (U (h + bg1 e + cho e f g + x + (bg0 a + maj a b c))), .int .u32 (U a), .int .u32 (U b), .int .u32 (U c), .int .u32 (U (d + (h + bg1 e + cho e f g + x))), .int .u32 (U e), .int .u32 (U f), .int .u32 (U g)]) ?_ rfl ⟨rfl, ?_⟩
  · simp [results, Tryd.results120, go_sem]
    exact ⟨rfl, rfl⟩
  · refine Below.setCell (Below.setCell (Below.setCell (Below.setCell (Below.setCell (Below.setCell (Below.setCell (Below.setCell (Below.drewN' (((Below.refl _ _).alloc (Nat.le_refl _) _).alloc (by simp) _) nq) ?_ _) ?_ _) ?_ _) ?_ _) ?_ _) ?_ _) ?_ _) ?_ _ <;> simp

end Go.Proofs.YtaanaoimnecenaaDoor
