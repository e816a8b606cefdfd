/-
  The walks of the document's Frame and Scan.
-/
import Derived.Test.YtkmcnkonkalfkaaDoorWD2
import Derived.Test.YtkmcnkonkalfkaaDoorWW2
import Derived.Test.YtkmcnkonkalfkaaDoorMemL
import Derived.Lib.Strings
namespace Go.Proofs.YtkmcnkonkalfkaaDoor
open Go.RowKit

theorem bytesBelow (W : World) (e : TypeId) (s : ByteArray) : Below W.heap.size W (Lib.bytesWorld W e s) :=
  ⟨rfl, rfl, rfl, by rw [Lib.bytesWorld_size]; omega, fun k hk => Lib.bytesWorld_at_old W e s k hk⟩
theorem bytesSeg (W : World) (e : TypeId) (s : ByteArray) : Seg (Lib.bytesWorld W e s) (some ⟨W.heap.size, 0, none⟩) s.size s.data.toList := by
  refine ⟨by simp, fun _ => ⟨_, _, rfl, fun j b hb => ?_⟩⟩
  have hj : j < s.size := by
    have := (List.getElem?_eq_some_iff.1 hb).1
    simpa using this
  rw [Nat.zero_add, Lib.bytesWorld_cell W e s j hj, List.getD_eq_getElem?_getD, hb]
  rfl

set_option maxHeartbeats 4000000 in
theorem rframe_any (A : Option Addr) (n c : Nat) (l : List UInt8) (w : World) (ha : Seg w A n l) (hn : n ≤ 900000) :
    Calls Tryd.prog 16 #[.slice A n c] w fun e w' => ∃ v, e = .returned v ∧ Own w' w.heap.size 5 v (frameL l) ∧ Below w.heap.size w w' := by
  have HLN := Lib.hid ha.1
  have hwr : IntKind.u64.wrap (n : Int) = (n : Int) := IntWalk.u64_in _ (by omega)
  go_enter Tryd.func16, Tryd.ntmps16
  go_wp2_with fail
  refine (num_call _ _ _ (by omega) (by omega) (by omega)).mono ?_
  rintro e w1 ⟨v1, rfl, ho1, hb1⟩
  obtain ⟨hd, hHD⟩ : ∃ hd, high ((n : Int)).toNat (4 : Int).toNat = hd := ⟨_, rfl⟩
  rw [hHD] at ho1
  have H4 := Lib.hid (show hd.length = 4 by rw [← hHD]; exact high_length _ _)
  have HHD := Lib.hid (show high n 4 = hd from hHD)
  obtain ⟨A1, c1, rfl, hs1, _, _⟩ := ho1.forms
  rw [H4.out] at hs1 ⊢
  clear ho1 hHD
  go_wp2_with fail
  refine (join_any A1 A 4 n c1 c hd l _ hs1 (ha.below hb1) (by omega)).mono ?_
  rintro e w2 ⟨v2, rfl, ho2, hb2⟩
  obtain ⟨A2, c2, rfl, hs2, _, _⟩ := ho2.forms
  have HL2 := Lib.hid (show (hd ++ l).length = 4 + n by rw [List.length_append, H4.out, HLN.out])
  rw [HL2.out] at hs2 ⊢
  clear ho2
  have hbw2 := Below.next' hb1 hb2 hb1.size
  have hs1 := hs1.below hb2
  go_wp2_with fail
  refine (rsum_any A2 _ c2 (hd ++ l) _ hs2 (by omega)).mono ?_
  rintro e w3 ⟨rfl, hb3⟩
  have hbw3 := Below.next' hbw2 hb3 hbw2.size
  have hs3 := hs1.below hb3
  have hz := shaSize (hd ++ l)
  have hx := extract4 (sha (hd ++ l))
  have HFR := Lib.hid (show frameL l = hd ++ ((sha (hd ++ l)).take 4 ++ l) by unfold frameL sum4; rw [HLN.out, HHD.out])
  have HX4 := Lib.hid (show ((sha (hd ++ l)).take 4).length = 4 by rw [List.length_take, sha_length]; rfl)
  generalize ByteArray.mk (sha (hd ++ l)).toArray = T at *
  generalize (sha (hd ++ l)).take 4 = s4 at *
  have kcv := fun W => Lib.run_convert_string_bytes (P := Tryd.prog) W 9 22 5 (⟨s4.toArray⟩ : ByteArray) Tryd.underlying9 Tryd.underlying22 Tryd.underlying5
  have hsz4 : (⟨s4.toArray⟩ : ByteArray).size = 4 := by show s4.toArray.size = 4; rw [List.size_toArray, HX4.out]
  have HX := Lib.hid (show (⟨s4.toArray⟩ : ByteArray).data.toList = s4 from rfl)
  generalize (⟨s4.toArray⟩ : ByteArray) = T4 at *
  clear hb1 hb2 hb3 hbw2 hs1 hs2
  go_wp2_with fail
  have hbs := bytesSeg w3 5 T4
  rw [hsz4] at hbs
  refine (join_any A1 _ 4 4 c1 _ hd T4.data.toList _ (hs3.below (bytesBelow _ _ _)) hbs (by omega)).mono ?_
  rintro e w4 ⟨v4, rfl, ho4, hb4⟩
  have hbw4 := Below.next' hbw3 (Below.next (bytesBelow _ _ _) hb4) hbw3.size
  obtain ⟨A4, c4, rfl, hs4, _, _⟩ := ho4.forms
  have HL4 := Lib.hid (show (hd ++ T4.data.toList).length = 8 by rw [HX.out, List.length_append, H4.out, HX4.out])
  rw [HL4.out] at hs4 ⊢
  clear ho4 hb4 hs3 hbw3
  go_wp2_with fail
  refine (join_any A4 A 8 n c4 c _ l _ hs4 (ha.below hbw4) (by omega)).mono ?_
  rintro e w5 ⟨v5, rfl, ho5, hb5⟩
  rw [HX.out, List.append_assoc, ← HFR.out] at ho5
  go_wp2
  go_ret
  exact ⟨_, rfl, ho5.mono hbw4.size, Below.next' hbw4 hb5 hbw4.size⟩

end Go.Proofs.YtkmcnkonkalfkaaDoor
