/-
  The document's example ('both'), and what is answered of no log and no disk.
-/
import Derived.Test.YtkmcnkonkalfkaaDoorWW3
import Derived.Lib.SlBytesConst
namespace Go.Proofs.YtkmcnkonkalfkaaDoor
open Go.RowKit

theorem scan_both : scanL ((frameL [97] ++ frameL [98]) ++ [97, 0]) = [[97], [98]] := by
  have h := scan_all [[97], [98]] [97, 0] (by simp)
  have e : allL [[97], [98]] = frameL [97] ++ frameL [98] := by simp [allL]
  rw [e, scanL_none (p := [97, 0]) (firstL_short (by simp))] at h
  exact h

set_option maxRecDepth 4000 in
set_option maxHeartbeats 8000000 in
theorem both_any (w : World) (ht : Tab w) :
    Calls Tryd.prog 10 #[] w fun e w' => e = .returned (.bool true) ∧ Below w.heap.size w w' := by
  go_enter Tryd.func10, Tryd.ntmps10
  have kc := Lib.run_convert_bytes_const (P := Tryd.prog) w 22 5 #[.int .u8 97] 1 1 Tryd.underlying22 Tryd.underlying5
  go_wp2_with fail
  refine (frame_any _ 1 _ [97] _ (Seg.newF _ _ _ _ _ _ rfl rfl) (by omega) (Tab.below ht ((Below.refl _ _).alloc (Nat.le_refl _) _))).mono ?_
  rintro e w1 ⟨v1, rfl, ho1, hb0⟩
  have hb1 : Below w.heap.size w w1 := Below.next ((Below.refl _ _).alloc (Nat.le_refl _) _) hb0
  obtain ⟨A1, c1, rfl, hs1, _, _⟩ := ho1.forms
  have HA := Lib.hid (show (frameL [97]).length = 9 from frameL_length _)
  have HAB := Lib.hid scan_both
  rw [HA.out] at hs1 ⊢
  generalize frameL [97] = fa at *
  clear ho1 hb0 kc
  have kc := Lib.run_convert_bytes_const (P := Tryd.prog) w1 22 5 #[.int .u8 98] 1 1 Tryd.underlying22 Tryd.underlying5
  go_wp2_with fail
  refine (frame_any _ 1 _ [98] _ (Seg.newF _ _ _ _ _ _ rfl rfl) (by omega) (Tab.below ht (hb1.alloc hb1.size _))).mono ?_
  rintro e w2 ⟨v2, rfl, ho2, hb0⟩
  have hb12 : Below w1.heap.size w1 w2 := Below.next ((Below.refl _ _).alloc (Nat.le_refl _) _) hb0
  have hb2 := Below.next' hb1 hb12 hb1.size
  obtain ⟨A2, c2, rfl, hs2, _, _⟩ := ho2.forms
  have HB := Lib.hid (show (frameL [98]).length = 9 from frameL_length _)
  rw [HB.out] at hs2 ⊢
  generalize frameL [98] = fb at *
  clear ho2 hb0 kc
  go_wp2_with fail
  refine (join_any A1 A2 9 9 c1 c2 fa fb _ (hs1.below hb12) hs2 (by omega)).mono ?_
  rintro e w3 ⟨v3, rfl, ho3, hb23⟩
  have hb3 := Below.next' hb2 hb23 hb2.size
  obtain ⟨A3, c3, rfl, hs3, _, _⟩ := ho3.forms
  have HL3 := Lib.hid (show (fa ++ fb).length = 18 by rw [List.length_append, HA.out, HB.out])
  rw [HL3.out] at hs3 ⊢
  generalize fa ++ fb = p3 at *
  clear ho3 hb23 hb12 hb1 hb2 hs1 hs2
  have kc := Lib.run_convert_bytes_const (P := Tryd.prog) w3 22 5 #[.int .u8 97, .int .u8 0] 2 2 Tryd.underlying22 Tryd.underlying5
  go_wp2_with fail
  refine (join_any A3 _ 18 2 c3 _ p3 [97, 0] _ (hs3.alloc _) (Seg.newF _ [97, 0] _ _ _ _ rfl rfl) (by omega)).mono ?_
  rintro e w4 ⟨v4, rfl, ho4, hb0⟩
  have hb4 := Below.next' hb3 (Below.next ((Below.refl _ _).alloc (Nat.le_refl _) _) hb0) hb3.size
  obtain ⟨A4, c4, rfl, hs4, hl4, hm4⟩ := ho4.forms
  have HL4 := Lib.hid (show (p3 ++ [97, 0]).length = 20 by rw [List.length_append, HL3.out]; rfl)
  rw [HL4.out] at hs4 hl4 ⊢
  generalize p3 ++ [97, 0] = p4 at *
  clear ho4 hb0 kc hb3 hs3
  go_wp2_with fail
  refine (scan_any A4 20 c4 p4 _ hs4 (by omega) hl4 hm4 (Tab.below ht hb4)).mono ?_
  rw [HAB.out]
  rintro e w5 ⟨v5, rfl, ho5, hb5⟩
  have hbw5 := Below.next' hb4 hb5 hb4.size
  rw [show sizeL [[97], [98]] = 18 from rfl]
  obtain ⟨A5, c5, rfl, hs5, _, _⟩ := ho5.seg
  obtain ⟨g, o, rfl, hc⟩ := hs5.2 (by simp)
  obtain ⟨B0, m0, c0, x0, s0, y0, z0⟩ := hc 0 [97] rfl
  obtain ⟨B1, m1, c1', x1, s1, y1, z1⟩ := hc 1 [98] rfl
  obtain rfl : 1 = m0 := s0.1
  obtain rfl : 1 = m1 := s1.1
  have k0 := run_string_seg (P := Tryd.prog) w5 22 9 5 bt Tryd.underlying9 _ _ c0 _ s0
  have k1 := run_string_seg (P := Tryd.prog) w5 22 9 5 bt Tryd.underlying9 _ _ c1' _ s1
  rw [Nat.add_zero] at x0
  clear hc hs5 ho5 hb5 hb4 hs4
  go_wp2
  go_ret
  exact ⟨rfl, hbw5⟩

theorem walOpen_nil (w : World) : Calls Tryd.prog 22 #[.pointer none] w fun e w' => e = .returned (.tuple #[.pointer none, .slice none 0 0, .int .i64 9]) ∧ w' = w := by
  go_enter Tryd.func22, Tryd.ntmps22
  go_wp2
  go_ret3
  exact ⟨rfl, rfl⟩
theorem walAppend_nil (x : Value) (w : World) : Calls Tryd.prog 24 #[.pointer none, x] w fun e w' => e = .returned (.int .i64 9) ∧ w' = w := by
  go_enter Tryd.func24, Tryd.ntmps24
  go_wp2
  go_ret
  exact ⟨rfl, rfl⟩
theorem walSync_nil (w : World) : Calls Tryd.prog 25 #[.pointer none] w fun e w' => e = .returned (.int .i64 9) ∧ w' = w := by
  go_enter Tryd.func25, Tryd.ntmps25
  go_wp2
  go_ret
  exact ⟨rfl, rfl⟩
theorem walSize_nil (w : World) : Calls Tryd.prog 34 #[.pointer none] w fun e w' => e = .returned (.int .i64 0) ∧ w' = w := by
  go_enter Tryd.func34, Tryd.ntmps34
  go_wp2
  go_ret
  exact ⟨rfl, rfl⟩

end Go.Proofs.YtkmcnkonkalfkaaDoor
