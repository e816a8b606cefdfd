/-
  The walk of the law TrieNil.
-/
import Derived.Test.YtklbacfjobcabaaDoorTR2
import Derived.Test.YtklbacfjobcabaaDoorL60
namespace Go.Proofs.YtklbacfjobcabaaDoor
open Go.RowKit

set_option maxRecDepth 8000 in
set_option maxHeartbeats 8000000 in
theorem trieNil_core (k : ByteArray) (w : World) (hk : k.size ≤ 60) (ht : Tab w) :
    Calls Tryd.prog 8 #[.string k] w fun e w' => e = .returned (.bool true) ∧ Below w.heap.size w w' := by
  have d0 : decide ((60 : Int) < (k.size : Int)) = false := decide_eq_false (by omega)
  have hdn := fun W (h : Below w.heap.size w W) => ndigest_nil W (Tab.below ht h)
  have hre := rempty_any
  generalize (⟨(sha [0]).toArray⟩ : ByteArray) = D at *
  have HDN := Lib.hid hdn
  have HRE := Lib.hid hre
  clear hdn hre
  go_enter Tryd.func8, Tryd.ntmps8
  go_wp2_with fail
  refine (get_nil k _ (by omega) ht).mono ?_
  rintro e w1 ⟨rfl, hb1⟩
  go_wp2_with fail
  refine (halves_nil _).mono ?_
  rintro e w2 ⟨rfl, rfl⟩
  go_wp2_with fail
  refine (leaf_nil _).mono ?_
  rintro e w3 ⟨rfl, rfl⟩
  go_wp2_with fail
  refine (back_any _ (Tab.below ht hb1)).mono ?_
  rintro e w4 ⟨rfl, hb4⟩
  have hbw4 := Below.next' hb1 hb4 hb1.size
  clear hb1 hb4
  go_wp2_with fail
  refine (del_nil k _ (by omega) (Tab.below ht hbw4)).mono ?_
  rintro e w5 ⟨rfl, hb5⟩
  have hbw5 := Below.next' hbw4 hb5 hbw4.size
  clear hbw4 hb5
  go_wp2_with fail
  refine (nlen_nil _).mono ?_
  rintro e w6 ⟨rfl, rfl⟩
  go_wp2_with fail
  refine (keys_nil _).mono ?_
  rintro e w7 ⟨⟨A7, c7, rfl⟩, hb7⟩
  have hbw7 := Below.next' hbw5 hb7 hbw5.size
  clear hbw5 hb7
  go_wp2_with fail
  refine (HDN.out _ hbw7).mono ?_
  rintro e w8 ⟨rfl, hb8⟩
  have hbw8 := Below.next' hbw7 hb8 hbw7.size
  clear hbw7 hb8
  go_wp2_with fail
  refine (HRE.out _).mono ?_
  rintro e w9 ⟨rfl, hb9⟩
  have hbw9 := Below.next' hbw8 hb9 hbw8.size
  clear hbw8 hb9 HDN HRE
  go_wp2
  go_ret
  exact ⟨rfl, hbw9⟩

theorem trieNil_walk (k : ByteArray) (w : World) (_ : k.size ≤ maxLen) (ht : Tab w) :
    Calls Tryd.prog 8 #[.string k] w fun e w' => e = .returned (.bool true) ∧ Below w.heap.size w w' := by
  by_cases h : k.size ≤ 60
  · exact trieNil_core k w h ht
  · have d0 : decide ((60 : Int) < (k.size : Int)) = true := decide_eq_true (by omega)
    go_enter Tryd.func8, Tryd.ntmps8
    go_wp2_with fail
    refine (back_any _ ht).mono ?_
    rintro e w1 ⟨rfl, hb1⟩
    go_wp2
    go_ret
    exact ⟨rfl, hb1⟩

end Go.Proofs.YtklbacfjobcabaaDoor
