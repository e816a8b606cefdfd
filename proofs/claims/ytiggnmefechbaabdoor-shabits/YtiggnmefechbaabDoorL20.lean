/-
  The walk of the law ShaBits.
-/
import Derived.Test.YtiggnmefechbaabDoorWH
import Derived.OpenShut
namespace Go.Proofs.YtiggnmefechbaabDoor
open Go.RowKit

set_option maxRecDepth 8000 in
set_option maxHeartbeats 4000000 in
theorem shaBits_core (s : ByteArray) (i : Int) (w : World) (hi0 : -9223372036854775808 ≤ i) (hi1 : i ≤ 9223372036854775807) (ht : Tab w) (hs : s.size ≤ 100) :
    Calls Tryd.prog 5 #[.string s, .int .i64 i] w fun e w' => e = .returned (.bool true) ∧ Below w.heap.size w w' := by
  have hd : decide ((100 : Int) < (s.size : Int)) = false := decide_eq_false (by omega)
  obtain ⟨k, hk⟩ : ∃ k, i.tmod 900 = k := ⟨_, rfl⟩
  have hk0 : -900 < k ∧ k < 900 := by
    rw [← hk]
    have h2 := Int.tmod_lt_of_pos i (show (0 : Int) < 900 by omega)
    have h3 := Int.lt_tmod_of_pos i (show (0 : Int) < 900 by omega)
    omega
  have H0 := Lib.hid hi0
  have H1 := Lib.hid hi1
  clear hi0 hi1
  go_enter Tryd.func5, Tryd.ntmps5
  go_wp2_with fail
  refine (abc_any _ ht).mono ?_
  rintro e w1 ⟨rfl, hb1⟩
  go_wp2_with fail
  refine (bit_any s i _ (by omega) H0.out H1.out).mono ?_
  rintro e w2 ⟨rfl, rfl⟩
  go_wp2_with fail
  refine (rbit_any s i _ (by omega) H0.out H1.out).mono ?_
  rintro e w2 ⟨rfl, rfl⟩
  go_wp2_with fail
  refine (bit_any s k _ (by omega) (by omega) (by omega)).mono ?_
  rintro e w2 ⟨rfl, rfl⟩
  go_wp2_with fail
  refine (rbit_any s k _ (by omega) (by omega) (by omega)).mono ?_
  rintro e w2 ⟨rfl, rfl⟩
  go_wp2_with fail
  refine (hex_any s _ (by omega)).mono ?_
  rintro e w2 ⟨rfl, hb2⟩
  have hbw2 : Below w.heap.size w w2 := Below.next' hb1 hb2 hb1.size
  clear hb2 hb1
  go_wp2_with fail
  refine (rhex_any s _ (by omega)).mono ?_
  rintro e w3 ⟨rfl, q, rfl⟩
  go_wp2
  go_ret
  exact ⟨rfl, Below.drewN' hbw2 q⟩

set_option maxRecDepth 8000 in
set_option maxHeartbeats 4000000 in
theorem shaBits_walk (s : ByteArray) (i : Int) (w : World) (_ : s.size ≤ maxLen) (hi : (Lit.int .i64 i).wf = true) (ht : Tab w) :
    Calls Tryd.prog 5 #[.string s, .int .i64 i] w fun e w' => e = .returned (.bool true) ∧ Below w.heap.size w w' := by
  by_cases h100 : s.size ≤ 100
  · exact shaBits_core s i w (bounds_i64 hi).1 (bounds_i64 hi).2 ht h100
  · have hd : decide ((100 : Int) < (s.size : Int)) = true := decide_eq_true (by omega)
    clear hi
    go_enter Tryd.func5, Tryd.ntmps5
    go_wp2_with fail
    refine (abc_any _ ht).mono ?_
    rintro e w1 ⟨rfl, hb1⟩
    go_wp2
    go_ret
    exact ⟨rfl, hb1⟩

end Go.Proofs.YtiggnmefechbaabDoor
