/-
  The record's own small functions over bytes: numbers written and read, highest byte first; a copy.
-/
import Derived.Test.YtandlkflnfiikaaW2
import Derived.Lib.ConvBytes
import Derived.Deep.RegionHeld3
import Derived.Deep.DeepCutAuto
namespace Go.Proofs.Ytandlkflnfiikaa
open Go.RowKit

set_option maxHeartbeats 400000 in
theorem clone_any (A : Option Addr) (n c : Nat) (l : List UInt8) (w : World) (ha : Seg w A n l) (hn : n ≤ 1099511627776) :
    Calls Try.prog 21 #[.slice A n c] w fun e w' => ∃ v, e = .returned v ∧ Own w' w.heap.size 5 v l ∧ Below w.heap.size w w' := by
  rcases A with _ | a
  · have h0 : n = 0 := by
      rcases Nat.eq_zero_or_pos n with h | h
      · exact h
      · obtain ⟨g, o, e, _⟩ := ha.2 h; cases e
    subst h0
    have hl : l = [] := List.eq_nil_of_length_eq_zero ha.1
    subst hl
    have keq := fun w => Lib.run_eql_slice_nil (P := Try.prog) w 29 5 none 0 c 0 0 Try.underlying29
    go_enter Try.func21, Try.ntmps21
    go_wp2
    go_ret
    exact ⟨_, rfl, Own.nil _ _ _, Below.refl _ _⟩
  · have keq := fun w => Lib.run_eql_slice_nil (P := Try.prog) w 29 5 (some a) n c 0 0 Try.underlying29
    go_enter Try.func21, Try.ntmps21
    go_wp2_with (at_builtin
                 refine wpList_append_seg _ rfl (.tmp 5) (.tmp 6) _ _ bt rfl w.heap.size _ [] rfl (Own.new w _ _ [] (Nat.le_refl _) (by simp [maxLen])) _ n c l rfl (ha.alloc _) (by simp; omega) (by simp) ?_
                 intro v1 w1 hown1 hg1 hat1)
    go_ret
    exact ⟨_, rfl, by simpa using hown1, below_grown ((Below.refl _ _).alloc (Nat.le_refl _) _) (Own.new w _ _ [] (Nat.le_refl _) (by simp [maxLen])) hg1 (Nat.le_refl _) (by simp)⟩


end Go.Proofs.Ytandlkflnfiikaa
