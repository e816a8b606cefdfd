/-
  What the reader's 'tell' answers.
-/
import Derived.Test.YtipfhcljdginoaaDoorWE2
namespace Go.Proofs.YtipfhcljdginoaaDoor
open Go.RowKit

set_option maxHeartbeats 4000000 in
/-- The reader's 'tell': the place, and which of the two numbers it is. -/
theorem tell_any (at_ x : Int) (w : World) (hg : Ety w) :
    Calls Tryd.prog 25 #[metV at_ x] w fun e w' => e = .returned (.tuple #[.int .i64 at_, .int .i64 (if x = 3 then 3 else 2)]) ∧ Below w.heap.size w w' := by
  have ha := as_met at_ x w.heap.size (.int .i64 0) .nilIface (w.alloc (.cells #[.int .i64 0, .nilIface] 73)) (cell_alloc _ hg) (by simp) (by simp) (by simp) (by simp)
  obtain ⟨b, hb⟩ : ∃ b, (x == 3) = b := ⟨_, rfl⟩
  have hi := is_met at_ x 3
  rw [hb] at hi
  have hr : (if x = 3 then 3 else 2 : Int) = (if b then 3 else 2) := by subst hb; simp
  rw [hr]
  clear hr hb
  obtain ⟨m, hm⟩ : ∃ m, metV at_ x = m := ⟨_, rfl⟩
  rw [hm] at ha hi ⊢
  clear hm
  rcases b with _ | _
  all_goals
    simp only [Bool.false_eq_true, if_false, if_true]
    go_enter Tryd.func25, Tryd.ntmps25
    go_wp2_with (go_at_call 33; refine ha.mono ?_; rintro _ w1 ⟨rfl, hc1, hb1⟩)
    go_wp2_with (go_at_call 34; refine (hi _).mono ?_; rintro _ w2 ⟨rfl, hb2⟩; have hc2 := cell_below hb2 hc1)
    go_ret2
    exact ⟨rfl, Below.next' (((Below.refl _ _).alloc (Nat.le_refl _) _).trans hb1) hb2 (by have := hb1.size; simp at this; omega)⟩

end Go.Proofs.YtipfhcljdginoaaDoor
