/-
  The document's example of trees ('back'), and the walk of the law TrieOwn.
-/
import Derived.Test.YtpbjianhkjjgkaaDoorZ11
import Derived.Test.YtpbjianhkjjgkaaDoorZ09
import Derived.Lib.SlBytesConst
namespace Go.Proofs.YtpbjianhkjjgkaaDoor
open Go.RowKit

theorem Own.formsn {w : World} {base : Nat} {e : TypeId} {v : Value} {l : List UInt8} (h : Own w base e v l) (k : Nat) (hk : l.length = k) : ∃ A c, v = .slice A k c ∧ Seg w A k l ∧ k ≤ c ∧ c ≤ maxLen := by
  subst hk
  exact h.forms

set_option maxRecDepth 4000 in
set_option maxHeartbeats 4000000 in
theorem back_any (w : World) (ht : Tab w) :
    Calls Tryd.prog 17 #[] w fun e w' => e = .returned (.bool true) ∧ Below w.heap.size w w' := by
  obtain ⟨K, hK⟩ : ∃ K : ByteArray, (⟨#[97]⟩ : ByteArray) = K := ⟨_, rfl⟩
  have hks : K.size ≤ 1000 := by rw [← hK]; decide
  have hkl : K.data.toList.length = 1 := by rw [← hK]; rfl
  have hkz : K.size = 1 := by rw [← hK]; rfl
  obtain ⟨X, hX⟩ : ∃ X, leafL K.data.toList [49] = X := ⟨_, rfl⟩
  have HX := Lib.hid hX
  have HXL := Lib.hid (show X.length = 7 by rw [← hX, leafL_length, hkl]; rfl)
  obtain ⟨D, hD⟩ : ∃ D : ByteArray, (⟨(sha X).toArray⟩ : ByteArray) = D := ⟨_, rfl⟩
  have HD := Lib.hid hD
  clear hX hD hkl
  go_enter Tryd.func17, Tryd.ntmps17
  rw [hK]
  clear hK
  have kc := Lib.run_convert_bytes_const (P := Tryd.prog) w 29 5 #[.int .u8 49] 1 1 Tryd.underlying29 Tryd.underlying5
  go_wp2_with fail
  refine (put_nil K _ 1 _ [49] _ (Seg.newF _ _ _ _ _ _ rfl rfl) hks (by omega) (Tab.below ht ((Below.refl _ _).alloc (Nat.le_refl _) _))).mono ?_
  rw [HX.out, HD.out]
  rintro e w1 ⟨g, v1, rfl, hl1, hb0⟩
  have hb1 : Below w.heap.size w w1 := Below.next ((Below.refl _ _).alloc (Nat.le_refl _) _) hb0
  clear hb0 kc
  go_wp2_with fail
  refine (del_leaf hl1 hks (Tab.below ht hb1)).mono ?_
  rintro e w2 ⟨rfl, hb2⟩
  have hl2 := hl1.below hb2
  have hbw2 := Below.next' hb1 hb2 hb1.size
  clear hl1 hb1 hb2
  go_wp2_with fail
  refine (nlen_leaf hl2).mono ?_
  rintro e w3 ⟨rfl, rfl⟩
  have kc := Lib.run_convert_bytes_const (P := Tryd.prog) w3 29 5 #[.int .u8 49] 1 1 Tryd.underlying29 Tryd.underlying5
  go_wp2_with fail
  refine (ndigest_leaf hl2).mono ?_
  rintro e w4 ⟨rfl, rfl⟩
  go_wp2_with fail
  refine (rleafB_any K _ 1 _ [49] _ (Seg.newF _ _ _ _ _ _ rfl rfl) (by omega) (by omega)).mono ?_
  rw [HX.out]
  rintro e w5 ⟨v5, rfl, ho5, hb5⟩
  obtain ⟨A5, c5, rfl, hs5, _, _⟩ := ho5.formsn 7 HXL.out
  have hbw5 := Below.next' hbw2 (Below.next ((Below.refl _ _).alloc (Nat.le_refl _) _) hb5) hbw2.size
  clear ho5 hb5 hbw2 hl2 kc
  go_wp2_with fail
  refine (rsum_any A5 7 c5 X _ hs5 (by omega)).mono ?_
  rw [HD.out]
  rintro e w6 ⟨rfl, hb6⟩
  have hbw6 := Below.next' hbw5 hb6 hbw5.size
  go_wp2
  go_ret
  exact ⟨rfl, hbw6⟩

end Go.Proofs.YtpbjianhkjjgkaaDoor
