/-
  The walk of the law MarkLeaf.
-/
import Derived.Test.YtocmpinpfhfcoaaDoorWM4
namespace Go.Proofs.YtocmpinpfhfcoaaDoor
open Go.RowKit

set_option maxRecDepth 8000 in
set_option maxHeartbeats 4000000 in
theorem markLeaf_walk (k : ByteArray) (A : Option Addr) (n c : Nat) (l : List UInt8) (w : World) (_ : k.size ≤ maxLen) (ha : Seg w A n l) (_ : n ≤ c) (_ : c ≤ maxLen) (ht : Tab w) :
    Calls Tryd.prog 3 #[.string k, .slice A n c] w fun e w' => e = .returned (.bool true) ∧ Below w.heap.size w w' := by
  by_cases hall : k.size ≤ 200 ∧ n ≤ 200
  · obtain ⟨h1, h2⟩ := hall
    have hd1 : decide ((200 : Int) < (k.size : Int)) = false := decide_eq_false (by omega)
    have hd2 : decide ((200 : Int) < (n : Int)) = false := decide_eq_false (by omega)
    obtain ⟨d, hd⟩ : ∃ d, leafL k.data.toList l = d := ⟨_, rfl⟩
    have HL := Lib.hid (show d.length ≤ 405 by
      rw [← hd, leafL_length, ha.1]
      have : k.data.toList.length = k.size := by simp
      omega)
    have HD := Lib.hid hd
    clear hd
    go_enter Tryd.func3, Tryd.ntmps3
    go_wp2_with fail
    refine (long_any _ ht).mono ?_
    rintro e w1 ⟨rfl, hb1⟩
    go_wp2_with fail
    refine (leafB_any k A n c l _ (ha.below hb1) (by omega) (by omega)).mono ?_
    rw [HD.out]
    rintro e w2 ⟨v2, rfl, ho2, hb2⟩
    obtain ⟨A2, c2, rfl, hs2, _, _⟩ := ho2.forms
    have hbw2 : Below w.heap.size w w2 := Below.next' hb1 hb2 hb1.size
    clear ho2 hb2 hb1
    go_wp2_with fail
    refine (rleafB_any k A n c l _ (ha.below hbw2) (by omega) (by omega)).mono ?_
    rw [HD.out]
    rintro e w3 ⟨v3, rfl, ho3, hb3⟩
    obtain ⟨A3, c3, rfl, hs3, _, _⟩ := ho3.forms
    have hbw3 : Below w.heap.size w w3 := Below.next' hbw2 hb3 hbw2.size
    have hs2' := hs2.below hb3
    clear ho3 hb3 hbw2 hs2
    go_wp2_with fail
    refine (bytes_any A2 A3 _ _ c2 c3 d d _ hs2' hs3 (by have := HL.out; simp only [maxLen]; omega)).mono ?_
    rintro e w4 ⟨rfl, q, rfl⟩
    rw [show (d == d) = true by simp]
    clear hs2' hs3
    have hbw4 : Below w.heap.size w (w3.drewN q) := Below.drewN' hbw3 q
    clear hbw3
    generalize w3.drewN q = w4 at *
    go_wp2_with fail
    refine (leaf_any k A n c l _ (ha.below hbw4) (by omega) (by omega) (Tab.below ht hbw4)).mono ?_
    rw [HD.out]
    rintro e w5 ⟨rfl, hb5⟩
    have hbw5 : Below w.heap.size w w5 := Below.next' hbw4 hb5 hbw4.size
    clear hb5 hbw4
    go_wp2_with fail
    refine (rleafB_any k A n c l _ (ha.below hbw5) (by omega) (by omega)).mono ?_
    rw [HD.out]
    rintro e w6 ⟨v6, rfl, ho6, hb6⟩
    obtain ⟨A6, c6, rfl, hs6, _, _⟩ := ho6.forms
    have hbw6 : Below w.heap.size w w6 := Below.next' hbw5 hb6 hbw5.size
    clear ho6 hb6 hbw5
    go_wp2_with fail
    refine (rsum_any A6 _ c6 d _ hs6 (by have := HL.out; omega)).mono ?_
    rintro e w7 ⟨rfl, hb7⟩
    have hbw7 : Below w.heap.size w w7 := Below.next' hbw6 hb7 hbw6.size
    generalize ByteArray.mk (sha d).toArray = B0 at *
    go_wp2
    go_ret
    exact ⟨rfl, hbw7⟩
  · have hc : 200 < k.size ∨ k.size ≤ 200 ∧ 200 < n := by omega
    rcases hc with h1 | ⟨h1, h2⟩
    · have hd1 : decide ((200 : Int) < (k.size : Int)) = true := decide_eq_true (by omega)
      go_enter Tryd.func3, Tryd.ntmps3
      go_wp2_with fail
      refine (long_any _ ht).mono ?_
      rintro e w1 ⟨rfl, hb1⟩
      go_wp2
      go_ret
      exact ⟨rfl, hb1⟩
    · have hd1 : decide ((200 : Int) < (k.size : Int)) = false := decide_eq_false (by omega)
      have hd2 : decide ((200 : Int) < (n : Int)) = true := decide_eq_true (by omega)
      go_enter Tryd.func3, Tryd.ntmps3
      go_wp2_with fail
      refine (long_any _ ht).mono ?_
      rintro e w1 ⟨rfl, hb1⟩
      go_wp2
      go_ret
      exact ⟨rfl, hb1⟩

end Go.Proofs.YtocmpinpfhfcoaaDoor
