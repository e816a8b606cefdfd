/-
  The walk of the law RecordReads.
-/
import Derived.Test.YtipfhcljdginoaaDoorRS1
import Derived.Test.YtipfhcljdginoaaDoorRC1
import Derived.Test.YtipfhcljdginoaaDoorRB3
import Derived.OpenShut
namespace Go.Proofs.YtipfhcljdginoaaDoor
open Go.RowKit

set_option maxRecDepth 8000 in
set_option maxHeartbeats 8000000 in
theorem reads6_any (A : Option Addr) (n c : Nat) (l : List UInt8) (w : World) (ha : Seg w A n l) (hnc : n ≤ c) (hcm : c ≤ maxLen) (hn : n ≤ 1000000) (hE : Ety w) :
    Calls Tryd.prog 18 #[.slice A n c] w fun e w' => e = .returned (.bool true) ∧ Below w.heap.size w w' := by
  have hd1 := decode_any A n c l w ha hnc hcm hn hE
  have hd2 := fun w' (h : Seg w' A n l) => rdecode_any A n c l w' h hnc hcm hn
  rcases hdp : decP l with ⟨N, D, P, X⟩
  rw [hdp] at hd1 hd2
  dsimp only at hd1 hd2
  have HD2 := Lib.hid hd2
  clear hd2 hdp hE
  go_enter Tryd.func18, Tryd.ntmps18
  go_wp2_with fail
  refine hd1.mono ?_
  rintro e w1 ⟨v1, rfl, hv1, hb1⟩
  obtain ⟨A1, c1, rfl, hs1, hl1, hm1⟩ := hv1.seg
  obtain ⟨q, hq⟩ : ∃ q, D.length = q := ⟨_, rfl⟩
  rw [hq] at hs1 hl1 ⊢
  simp only [maxLen] at hm1
  have HQ := Lib.hid hq
  clear hd1 hv1 hq
  obtain ⟨w2, hw2⟩ : ∃ w2, w1.alloc (.cells #[.int .i64 (N : Int), .slice A1 q c1] 26) = w2 := ⟨_, rfl⟩
  have hb12 : Below w1.heap.size w1 w2 := by rw [← hw2]; exact (Below.refl _ _).alloc (Nat.le_refl _) _
  have x0 : w2.cell? ⟨w1.heap.size, 0, none⟩ = some (.int .i64 (N : Int)) := by rw [← hw2]; simp
  have x1 : w2.cell? ⟨w1.heap.size, 1, none⟩ = some (.slice A1 q c1) := by rw [← hw2]; simp
  have hb2 := Below.next' hb1 hb12 hb1.size
  have hs2 := hs1.below hb12
  have ha2 := ha.below hb2
  have HW2 := Lib.hid hw2
  clear hw2 hb1 hb12 hs1 ha
  obtain ⟨g1, hg1⟩ : ∃ g1, w1.heap.size = g1 := ⟨_, rfl⟩
  rw [hg1] at x0 x1
  go_wp2_with fail
  rw [HW2.out]
  try rw [hg1]
  clear hg1 HW2
  refine (HD2.out w2 ha2).mono ?_
  rintro e w3 ⟨v3, rfl, hv3, hb3⟩
  obtain ⟨A3, c3, rfl, hs3, hl3, hm3⟩ := hv3.seg
  rw [HQ.out] at hs3 hl3 ⊢
  have hs23 := hs2.below hb3
  have x03 := cell_below hb3 x0
  have x13 := cell_below hb3 x1
  have hb13 := Below.next' hb2 hb3 hb2.size
  have hlt1 : g1 < w3.heap.size := World.block_lt_of_cell? w3 _ x03
  clear hv3 hs2 x0 x1 hb2 hb3 ha2
  obtain ⟨w4, hw4⟩ : ∃ w4, w3.alloc (.cells #[.int .i64 (N : Int), .slice A3 q c3] 26) = w4 := ⟨_, rfl⟩
  have hb34 : Below w3.heap.size w3 w4 := by rw [← hw4]; exact (Below.refl _ _).alloc (Nat.le_refl _) _
  have z0 : w4.cell? ⟨w3.heap.size, 0, none⟩ = some (.int .i64 (N : Int)) := by rw [← hw4]; simp
  have z1 : w4.cell? ⟨w3.heap.size, 1, none⟩ = some (.slice A3 q c3) := by rw [← hw4]; simp
  have x04 := cell_below hb34 x03
  have x14 := cell_below hb34 x13
  have hs14 := hs23.below hb34
  have hs34 := hs3.below hb34
  have hb4 := Below.next' hb13 hb34 hb13.size
  obtain ⟨g3, hg3⟩ : ∃ g3, w3.heap.size = g3 := ⟨_, rfl⟩
  rw [hg3] at z0 z1
  have HW4 := Lib.hid hw4
  have HG3 := Lib.hid hg3
  have hsm := rsame6_any N N A1 A3 q q c1 c3 D D w4 hs14 hs34 (by omega)
  rw [all2_self, show decide ((N : Int) = (N : Int)) = true by simp] at hsm
  have HSM := Lib.hid hsm
  clear hw4 hg3 hb34 x03 x13 hs23 hs3 hb13 hs14 hs34 hsm hlt1 HD2
  go_upto_region 3 with fail
  rw [HW4.out, HG3.out]
  clear HW4 HG3
  go_wp2_with fail
  refine HSM.out.mono ?_
  rintro e w5 ⟨rfl, hb5⟩
  have hbf := Below.next' hb4 hb5 hb4.size
  clear HSM hb5 hb4
  go_wp2
  go_ret
  exact ⟨rfl, hbf⟩

set_option maxRecDepth 8000 in
set_option maxHeartbeats 8000000 in
theorem recordReads_core (A : Option Addr) (n c : Nat) (l : List UInt8) (w : World) (ha : Seg w A n l) (hnc : n ≤ c) (hcm : c ≤ maxLen) (hn : n ≤ 200) (hE : Ety w) :
    Calls Tryd.prog 4 #[.slice A n c] w fun e w' => e = .returned (.bool true) ∧ Below w.heap.size w w' := by
  have d0 : decide ((200 : Int) < (n : Int)) = false := decide_eq_false (by omega)
  have hsh := short_any w hE
  have HRD := Lib.hid (fun w' (h : Seg w' A n l) (e : Ety w') => reads6_any A n c l w' h hnc hcm (by omega) e)
  have HE := Lib.hid hE
  have HA := Lib.hid ha
  clear hE ha
  go_enter Tryd.func4, Tryd.ntmps4
  go_wp2_with fail
  refine hsh.mono ?_
  rintro e w1 ⟨rfl, hb1⟩
  go_wp2_with fail
  refine (HRD.out w1 (HA.out.below hb1) (HE.out.below hb1)).mono ?_
  rintro e w2 ⟨rfl, hb2⟩
  have hb12 := Below.next' hb1 hb2 hb1.size
  have ha2 := HA.out.below hb12
  have hE2 := HE.out.below hb12
  clear hb1 hb2 hsh
  obtain ⟨w3, hw3⟩ : ∃ w3, w2.alloc (.cells #[.int .u8 0, .int .u8 0, .int .u8 0, .int .u8 0, .int .u8 0, .int .u8 0, .int .u8 0, .int .u8 9, .int .u8 0, .int .u8 2, .int .u8 0, .int .u8 1] 5) = w3 := ⟨_, rfl⟩
  have hs3 : Seg w3 (some ⟨w2.heap.size, 0, none⟩) 12 [0, 0, 0, 0, 0, 0, 0, 9, 0, 2, 0, 1] := by rw [← hw3]; exact Seg.newAt _ _ _ _ _ _ rfl rfl rfl
  have hb23 : Below w2.heap.size w2 w3 := by rw [← hw3]; exact (Below.refl _ _).alloc (Nat.le_refl _) _
  have ha3 := ha2.below hb23
  have hE3 := hE2.below hb23
  have hb3 := Below.next' hb12 hb23 hb12.size
  have hj := join_any _ A 12 n 12 c _ l w3 hs3 ha3 (by omega)
  obtain ⟨t, ht⟩ : ∃ t, ([0, 0, 0, 0, 0, 0, 0, 9, 0, 2, 0, 1] : List UInt8) ++ l = t := ⟨_, rfl⟩
  have htl : t.length = 12 + n := by rw [← ht, List.length_append, ha3.1]; rfl
  rw [ht] at hj
  have HJ := Lib.hid hj
  have HTL := Lib.hid htl
  have HW3 := Lib.hid hw3
  clear hw3 hs3 hb23 ht hj htl ha2 ha3 hE2 HRD hb12
  go_wp2_with fail
  rw [HW3.out]
  clear HW3
  refine HJ.out.mono ?_
  rintro e w4 ⟨v4, rfl, ho4, hb4⟩
  obtain ⟨A4, c4, rfl, hs4, hl4, hm4⟩ := ho4.forms
  have hE4 := hE3.below hb4
  have hbw4 := Below.next' hb3 hb4 hb3.size
  have hrd := reads6_any A4 t.length c4 t w4 hs4 hl4 hm4 (by rw [HTL.out]; omega) hE4
  have HRD := Lib.hid hrd
  clear hrd hs4 hE3 hE4 hb3 hb4 ho4 HJ
  go_wp2_with fail
  refine HRD.out.mono ?_
  rintro e w5 ⟨rfl, hb5⟩
  have hbf := Below.next' hbw4 hb5 hbw4.size
  clear HRD hb5 hbw4
  go_wp2
  go_ret
  exact ⟨rfl, hbf⟩

theorem recordReads_walk (A : Option Addr) (n c : Nat) (l : List UInt8) (w : World) (ha : Seg w A n l) (hnc : n ≤ c) (hcm : c ≤ maxLen) (hE : Ety w) :
    Calls Tryd.prog 4 #[.slice A n c] w fun e w' => e = .returned (.bool true) ∧ Below w.heap.size w w' := by
  by_cases h : n ≤ 200
  · exact recordReads_core A n c l w ha hnc hcm h hE
  · have d0 : decide ((200 : Int) < (n : Int)) = true := decide_eq_true (by omega)
    have hs := short_any w hE
    go_enter Tryd.func4, Tryd.ntmps4
    go_wp2_with fail
    refine hs.mono ?_
    rintro e w1 ⟨rfl, hb1⟩
    clear hs hE
    go_wp2
    go_ret
    exact ⟨rfl, hb1⟩

end Go.Proofs.YtipfhcljdginoaaDoor
