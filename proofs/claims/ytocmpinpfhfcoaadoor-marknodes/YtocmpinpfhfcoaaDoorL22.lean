/-
  The walk of the law MarkNodes.
-/
import Derived.Test.YtocmpinpfhfcoaaDoorWM4
namespace Go.Proofs.YtocmpinpfhfcoaaDoor
open Go.RowKit

set_option maxRecDepth 8000 in
set_option maxHeartbeats 4000000 in
theorem markNodes_walk (A : Option Addr) (na ca : Nat) (a : List UInt8) (B : Option Addr) (nb cb : Nat) (b : List UInt8) (C : Option Addr) (nc cc : Nat) (c : List UInt8) (D : Option Addr) (np cp : Nat) (p : List UInt8) (w : World)
    (ha : Seg w A na a) (_ : na ≤ ca) (_ : ca ≤ maxLen) (hb : Seg w B nb b) (_ : nb ≤ cb) (_ : cb ≤ maxLen) (hc : Seg w C nc c) (_ : nc ≤ cc) (_ : cc ≤ maxLen) (hp : Seg w D np p) (_ : np ≤ cp) (_ : cp ≤ maxLen) (ht : Tab w) :
    Calls Tryd.prog 4 #[.slice A na ca, .slice B nb cb, .slice C nc cc, .slice D np cp] w fun e w' => e = .returned (.bool true) ∧ Below w.heap.size w w' := by
  by_cases hall : na ≤ 100 ∧ nb ≤ 100 ∧ nc ≤ 100 ∧ np ≤ 100
  · obtain ⟨h1, h2, h3, h4⟩ := hall
    have hd0 : decide ((100 : Int) < (na : Int)) = false := decide_eq_false (by omega)
    have hd1 : decide ((100 : Int) < (nb : Int)) = false := decide_eq_false (by omega)
    have hd2 : decide ((100 : Int) < (nc : Int)) = false := decide_eq_false (by omega)
    have hd3 : decide ((100 : Int) < (np : Int)) = false := decide_eq_false (by omega)
    go_enter Tryd.func4, Tryd.ntmps4
    go_wp2_with fail
    refine (rsum_any A na ca a _ ha (by omega)).mono ?_
    rintro e w1 ⟨rfl, hb1⟩
    have hX := sha_size a
    have HX := Lib.hid (sha_list a)
    generalize ByteArray.mk (sha a).toArray = X at *
    go_wp2_with fail
    refine (rsum_any B nb cb b _ (hb.below hb1) (by omega)).mono ?_
    rintro e w2 ⟨rfl, hb2⟩
    have hbw2 : Below w.heap.size w w2 := Below.next' hb1 hb2 hb1.size
    have hY := sha_size b
    have HY := Lib.hid (sha_list b)
    generalize ByteArray.mk (sha b).toArray = Y at *
    clear hb1 hb2
    go_wp2_with fail
    refine (rsum_any C nc cc c _ (hc.below hbw2) (by omega)).mono ?_
    rintro e w3 ⟨rfl, hb3⟩
    have hbw3 : Below w.heap.size w w3 := Below.next' hbw2 hb3 hbw2.size
    have hZ := sha_size c
    have HZ := Lib.hid (sha_list c)
    generalize ByteArray.mk (sha c).toArray = Z at *
    clear hb3 hbw2
    have hXl : X.data.toList.length = 32 := by rw [← hX]; simp
    have hYl : Y.data.toList.length = 32 := by rw [← hY]; simp
    have hZl : Z.data.toList.length = 32 := by rw [← hZ]; simp
    obtain ⟨d, hd⟩ : ∃ d, nodeL X.data.toList Y.data.toList = d := ⟨_, rfl⟩
    have HL := Lib.hid (show d.length = 65 by rw [← hd, nodeL_length, hXl, hYl])
    have HD := Lib.hid hd
    obtain ⟨k, hk⟩ : ∃ k, linkL X.data.toList Y.data.toList Z.data.toList = k := ⟨_, rfl⟩
    have KL := Lib.hid (show k.length = 97 by rw [← hk, linkL_length, hXl, hYl, hZl])
    have KD := Lib.hid hk
    clear hd hk hXl hYl hZl
    go_wp2_with fail
    refine (long_any _ (Tab.below ht hbw3)).mono ?_
    rintro e w4 ⟨rfl, hb4⟩
    have hbw4 : Below w.heap.size w w4 := Below.next' hbw3 hb4 hbw3.size
    clear hb4 hbw3
    go_wp2_with fail
    refine (nodeB_any X Y _ (by omega) (by omega)).mono ?_
    rw [HD.out]
    rintro e w5 ⟨v5, rfl, ho5, hb5⟩
    obtain ⟨A5, c5, rfl, hs5, _, _⟩ := ho5.forms
    have hbw5 : Below w.heap.size w w5 := Below.next' hbw4 hb5 hbw4.size
    clear ho5 hb5 hbw4
    go_wp2_with fail
    refine (rnodeB_any X Y _ (by omega) (by omega)).mono ?_
    rw [HD.out]
    rintro e w6 ⟨A6, c6, d', rfl, hs6, hdd, hb6⟩
    subst d'
    have hbw6 : Below w.heap.size w w6 := Below.next' hbw5 hb6 hbw5.size
    have hs5' := hs5.below hb6
    clear hb6 hbw5 hs5
    go_wp2_with fail
    refine (bytes_any A5 A6 _ _ c5 c6 d d _ hs5' hs6 (by rw [HL.out]; simp only [maxLen]; omega)).mono ?_
    rintro e w7 ⟨rfl, q, rfl⟩
    rw [show (d == d) = true by simp]
    have hbw7 : Below w.heap.size w (w6.drewN q) := Below.drewN' hbw6 q
    clear hbw6 hs5' hs6
    generalize w6.drewN q = w7 at *
    go_wp2_with fail
    refine (linkB_any X Y Z _ (by omega) (by omega) (by omega)).mono ?_
    rw [KD.out]
    rintro e w8 ⟨v8, rfl, ho8, hb8⟩
    obtain ⟨A8, c8, rfl, hs8, _, _⟩ := ho8.forms
    have hbw8 : Below w.heap.size w w8 := Below.next' hbw7 hb8 hbw7.size
    clear ho8 hb8 hbw7
    go_wp2_with fail
    refine (rlinkB_any X Y Z _ (by omega) (by omega) (by omega)).mono ?_
    rw [KD.out]
    rintro e w9 ⟨A9, c9, d', rfl, hs9, hdd, hb9⟩
    subst d'
    have hbw9 : Below w.heap.size w w9 := Below.next' hbw8 hb9 hbw8.size
    have hs8' := hs8.below hb9
    clear hb9 hbw8 hs8
    go_wp2_with fail
    refine (bytes_any A8 A9 _ _ c8 c9 k k _ hs8' hs9 (by rw [KL.out]; simp only [maxLen]; omega)).mono ?_
    rintro e w10 ⟨rfl, q, rfl⟩
    rw [show (k == k) = true by simp]
    have hbw10 : Below w.heap.size w (w9.drewN q) := Below.drewN' hbw9 q
    clear hbw9 hs8' hs9
    generalize w9.drewN q = w10 at *
    go_wp2_with fail
    refine (node_any X Y _ (by omega) (by omega) (Tab.below ht hbw10)).mono ?_
    rw [HD.out]
    rintro e w11 ⟨rfl, hb11⟩
    have hbw11 : Below w.heap.size w w11 := Below.next' hbw10 hb11 hbw10.size
    clear hb11 hbw10
    go_wp2_with fail
    refine (rnodeB_any X Y _ (by omega) (by omega)).mono ?_
    rw [HD.out]
    rintro e w12 ⟨A12, c12, d', rfl, hs12, hdd, hb12⟩
    subst d'
    have hbw12 : Below w.heap.size w w12 := Below.next' hbw11 hb12 hbw11.size
    clear hb12 hbw11
    go_wp2_with fail
    refine (rsum_any A12 _ c12 d _ hs12 (by rw [HL.out]; omega)).mono ?_
    rintro e w13 ⟨rfl, hb13⟩
    have hbw13 : Below w.heap.size w w13 := Below.next' hbw12 hb13 hbw12.size
    clear hb13 hbw12 hs12
    generalize ByteArray.mk (sha d).toArray = B0 at *
    go_wp2_with fail
    refine (link_any X Y D np cp p _ (hp.below hbw13) (by omega) (by omega) (by omega) (Tab.below ht hbw13)).mono ?_
    rintro e w14 ⟨rfl, hb14⟩
    have hbw14 : Below w.heap.size w w14 := Below.next' hbw13 hb14 hbw13.size
    clear hb14 hbw13
    go_wp2_with fail
    refine (rlink_any X Y D np cp p _ (hp.below hbw14) (by omega) (by omega) (by omega)).mono ?_
    rintro e w15 ⟨rfl, hb15⟩
    have hbw15 : Below w.heap.size w w15 := Below.next' hbw14 hb15 hbw14.size
    clear hb15 hbw14
    generalize ByteArray.mk (sha (linkL X.data.toList Y.data.toList (sha p))).toArray = B1 at *
    go_wp2
    go_ret
    exact ⟨rfl, hbw15⟩
  · have hc : 100 < na ∨ na ≤ 100 ∧ 100 < nb ∨ na ≤ 100 ∧ nb ≤ 100 ∧ 100 < nc ∨ na ≤ 100 ∧ nb ≤ 100 ∧ nc ≤ 100 ∧ 100 < np := by omega
    rcases hc with g0 | ⟨g0, g1⟩ | ⟨g0, g1, g2⟩ | ⟨g0, g1, g2, g3⟩
    · have hd0 : decide ((100 : Int) < (na : Int)) = true := decide_eq_true (by omega)
      go_enter Tryd.func4, Tryd.ntmps4
      go_wp2_with fail
      refine (long_any _ ht).mono ?_
      rintro e w1 ⟨rfl, hb1⟩
      go_wp2
      go_ret
      exact ⟨rfl, hb1⟩
    · have hd0 : decide ((100 : Int) < (na : Int)) = false := decide_eq_false (by omega)
      have hd1 : decide ((100 : Int) < (nb : Int)) = true := decide_eq_true (by omega)
      go_enter Tryd.func4, Tryd.ntmps4
      go_wp2_with fail
      refine (long_any _ ht).mono ?_
      rintro e w1 ⟨rfl, hb1⟩
      go_wp2
      go_ret
      exact ⟨rfl, hb1⟩
    · have hd0 : decide ((100 : Int) < (na : Int)) = false := decide_eq_false (by omega)
      have hd1 : decide ((100 : Int) < (nb : Int)) = false := decide_eq_false (by omega)
      have hd2 : decide ((100 : Int) < (nc : Int)) = true := decide_eq_true (by omega)
      go_enter Tryd.func4, Tryd.ntmps4
      go_wp2_with fail
      refine (long_any _ ht).mono ?_
      rintro e w1 ⟨rfl, hb1⟩
      go_wp2
      go_ret
      exact ⟨rfl, hb1⟩
    · have hd0 : decide ((100 : Int) < (na : Int)) = false := decide_eq_false (by omega)
      have hd1 : decide ((100 : Int) < (nb : Int)) = false := decide_eq_false (by omega)
      have hd2 : decide ((100 : Int) < (nc : Int)) = false := decide_eq_false (by omega)
      have hd3 : decide ((100 : Int) < (np : Int)) = true := decide_eq_true (by omega)
      go_enter Tryd.func4, Tryd.ntmps4
      go_wp2_with fail
      refine (long_any _ ht).mono ?_
      rintro e w1 ⟨rfl, hb1⟩
      go_wp2
      go_ret
      exact ⟨rfl, hb1⟩

end Go.Proofs.YtocmpinpfhfcoaaDoor
