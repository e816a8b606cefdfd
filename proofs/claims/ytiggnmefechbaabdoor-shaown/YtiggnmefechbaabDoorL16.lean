/-
  The walk of the law ShaOwn.
-/
import Derived.Test.YtiggnmefechbaabDoorWL
namespace Go.Proofs.YtiggnmefechbaabDoor
open Go.RowKit

set_option maxRecDepth 8000 in
set_option maxHeartbeats 4000000 in
theorem shaOwn_walk (A : Option Addr) (n c : Nat) (l : List UInt8) (w : World) (ha : Seg w A n l) (_ : n ≤ c) (_ : c ≤ maxLen) (ht : Tab w) :
    Calls Tryd.prog 6 #[.slice A n c] w fun e w' => e = .returned (.bool true) ∧ Below w.heap.size w w' := by
  by_cases h200 : n ≤ 200
  · have hd : decide ((200 : Int) < (n : Int)) = false := decide_eq_false (by omega)
    go_enter Tryd.func6, Tryd.ntmps6
    go_wp2_with fail
    refine (join_any A none n 0 c 0 l [] _ ha (Seg.nil _ _) (by omega)).mono ?_
    rintro e w1 ⟨v1, rfl, ho1, hb1⟩
    rw [List.append_nil] at ho1
    obtain ⟨A1, c1, rfl, hs1, hlc1, hcm1⟩ := ho1.forms
    have ha1 := ha.below hb1
    have ht1 : Tab w1 := Tab.below ht hb1
    clear ho1
    go_wp2_with fail
    refine (sum_any A n c l _ ha1 (by omega) ht1).mono ?_
    rintro e w2 ⟨rfl, hb2⟩
    have hs2 := hs1.below hb2
    have hbw2 : Below w.heap.size w w2 := Below.next' hb1 hb2 hb1.size
    clear hb2 hs1 hb1 ha1 ht1
    go_wp2_with fail
    refine (abc_any _ (Tab.below ht hbw2)).mono ?_
    rintro e w3 ⟨rfl, hb3⟩
    have hs3 := hs2.below hb3
    have hbw3 : Below w.heap.size w w3 := Below.next' hbw2 hb3 hbw2.size
    clear hb3 hs2 hbw2
    go_wp2_with fail
    refine (bytes_any A A1 n l.length c c1 l l _ (ha.below hbw3) hs3 (by simp only [maxLen]; omega)).mono ?_
    rintro e w4 ⟨rfl, q, rfl⟩
    have hll : (l == l) = true := by simp
    rw [hll]
    clear hll hs3
    go_wp2_with fail
    refine (sum_any A n c l _ ((ha.below hbw3).drewN q) (by omega) (Tab.drewN (Tab.below ht hbw3) q)).mono ?_
    rintro e w5 ⟨rfl, hb5⟩
    have hbw5 : Below w.heap.size w w5 := Below.next' hbw3 (Below.undrewN hb5) hbw3.size
    clear hb5
    go_wp2
    go_ret
    exact ⟨rfl, hbw5⟩
  · have hd : decide ((200 : Int) < (n : Int)) = true := decide_eq_true (by omega)
    go_enter Tryd.func6, Tryd.ntmps6
    go_wp2_with fail
    refine (abc_any _ ht).mono ?_
    rintro e w1 ⟨rfl, hb1⟩
    go_wp2
    go_ret
    exact ⟨rfl, hb1⟩

end Go.Proofs.YtiggnmefechbaabDoor
