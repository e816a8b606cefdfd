/-
  The walk of the law WalFrames.
-/
import Derived.Test.YtkmcnkonkalfkaaDoorWW7
import Derived.Test.YtkmcnkonkalfkaaDoorWW6
import Derived.Test.YtkmcnkonkalfkaaDoorWW5
namespace Go.Proofs.YtkmcnkonkalfkaaDoor
open Go.RowKit

set_option maxRecDepth 8000 in
set_option maxHeartbeats 8000000 in
theorem walFrames_core (A : Option Addr) (n c : Nat) (l : List UInt8) (A' : Option Addr) (n' c' : Nat) (l' : List UInt8) (w : World) (ha : Seg w A n l) (ha' : Seg w A' n' l') (h1 : n ≤ 200) (h2 : n' ≤ 60) (ht : Tab w) :
    Calls Tryd.prog 3 #[.slice A n c, .slice A' n' c'] w fun e w' => e = .returned (.bool true) ∧ Below w.heap.size w w' := by
  have d0 : decide ((200 : Int) < (n : Int)) = false := decide_eq_false (by omega)
  have d1 : decide ((60 : Int) < (n' : Int)) = false := decide_eq_false (by omega)
  have HLN := Lib.hid ha.1
  have HLN' := Lib.hid ha'.1
  have hM : scanL (frameL l ++ l') = l :: scanL l' := by rw [scanL_some (first_frame _ _ (by have := ha.1; omega)), List.drop_left' (frameL_length l)]
  obtain ⟨fl, hfl⟩ : ∃ fl, frameL l = fl := ⟨_, rfl⟩
  have HFL := Lib.hid hfl
  have HF := Lib.hid (show fl.length = 8 + n by rw [← hfl, frameL_length, ha.1])
  rw [hfl] at hM
  obtain ⟨d, hd⟩ : ∃ d, fl ++ l' = d := ⟨_, rfl⟩
  have HD := Lib.hid hd
  have HDL := Lib.hid (show d.length = 8 + n + n' by rw [← hd, List.length_append, HF.out, ha'.1])
  rw [hd] at hM
  obtain ⟨M, hM'⟩ : ∃ M, scanL d = M := ⟨_, rfl⟩
  have HMS := Lib.hid hM'
  rw [hM'] at hM
  have HM0 := Lib.hid (show M[0]? = some l by rw [hM]; rfl)
  obtain ⟨k, hk⟩ : ∃ k, M.length = k := ⟨_, rfl⟩
  have HK := Lib.hid hk
  have hk0 : 0 < k := by rw [← hk, hM]; simp
  have hkd : decide ((0 : Int) < (k : Int)) = true := decide_eq_true (by omega)
  have hkn : k ≤ 1000 := by
    have h1 := scanL_size d
    have h2 : ∀ L : List (List UInt8), L.length ≤ sizeL L := by
      intro L
      induction L with
      | nil => simp [sizeL]
      | cons a L ih => simp only [List.length_cons, sizeL]; omega
    have := h2 M
    rw [hM', HDL.out] at h1
    omega
  clear hM hM' hk hd hfl
  go_enter Tryd.func3, Tryd.ntmps3
  go_wp2_with fail
  refine (both_any _ ht).mono ?_
  rintro e w1 ⟨rfl, hb1⟩
  go_wp2_with fail
  refine (frame_any A n c l _ (ha.below hb1) (by omega) (Tab.below ht hb1)).mono ?_
  rw [HFL.out]
  rintro e w2 ⟨v2, rfl, ho2, hb2⟩
  have hbw2 := Below.next' hb1 hb2 hb1.size
  obtain ⟨A2, c2, rfl, hs2, _, _⟩ := ho2.forms
  rw [HF.out] at hs2 ⊢
  clear ho2 hb1 hb2
  go_wp2_with fail
  refine (join_any A2 A' (8 + n) n' c2 c' fl l' _ hs2 (ha'.below hbw2) (by omega)).mono ?_
  rw [HD.out]
  rintro e w3 ⟨v3, rfl, ho3, hb3⟩
  have hbw3 := Below.next' hbw2 hb3 hbw2.size
  have hs23 := hs2.below hb3
  obtain ⟨A3, c3, rfl, hs3, hl3, hm3⟩ := ho3.forms
  rw [HDL.out] at hs3 hl3 ⊢
  clear ho3 hb3 hbw2 hs2
  go_wp2_with fail
  refine (scan_any A3 (8 + n + n') c3 d _ hs3 (by omega) hl3 hm3 (Tab.below ht hbw3)).mono ?_
  rw [HMS.out]
  rintro e w4 ⟨v4, rfl, ho4, hb4⟩
  have hbw4 := Below.next' hbw3 hb4 hbw3.size
  have hs24 := hs23.below hb4
  obtain ⟨A4, c4, rfl, hs4, _, _⟩ := ho4.seg
  rw [HK.out] at hs4 ⊢
  clear ho4 hb4 hbw3 hs23 hs3
  go_wp2_with fail
  refine (join_any A2 A' (8 + n) n' c2 c' fl l' _ hs24 (ha'.below hbw4) (by omega)).mono ?_
  rw [HD.out]
  rintro e w5 ⟨v5, rfl, ho5, hb5⟩
  have hbw5 := Below.next' hbw4 hb5 hbw4.size
  have hs25 := hs24.below hb5
  have hs45 := hs4.below hb5
  obtain ⟨A5, c5, rfl, hs5, hl5, hm5⟩ := ho5.forms
  rw [HDL.out] at hs5 hl5 ⊢
  clear ho5 hb5 hbw4 hs24 hs4
  go_wp2_with fail
  refine (rscan_any A5 (8 + n + n') c5 d _ hs5 (by omega) hl5 hm5).mono ?_
  rw [HMS.out]
  rintro e w6 ⟨v6, rfl, ho6, hb6⟩
  have hbw6 := Below.next' hbw5 hb6 hbw5.size
  have hs26 := hs25.below hb6
  have hs46 := hs45.below hb6
  obtain ⟨A6, c6, rfl, hs6, _, _⟩ := ho6.seg
  rw [HK.out] at hs6 ⊢
  clear ho6 hb6 hbw5 hs25 hs45 hs5
  go_wp2_with fail
  refine (rframe_any A n c l _ (ha.below hbw6) (by omega)).mono ?_
  rw [HFL.out]
  rintro e w7 ⟨v7, rfl, ho7, hb7⟩
  have hbw7 := Below.next' hbw6 hb7 hbw6.size
  have hs27 := hs26.below hb7
  have hs47 := hs46.below hb7
  have hs67 := hs6.below hb7
  obtain ⟨A7, c7, rfl, hs7, _, _⟩ := ho7.forms
  rw [HF.out] at hs7 ⊢
  clear ho7 hb7 hbw6 hs26 hs46 hs6
  go_wp2_with fail
  refine (bytes_any A2 A7 (8 + n) (8 + n) c2 c7 fl fl _ hs27 hs7 (by simp only [maxLen]; omega)).mono ?_
  rintro e w8 ⟨rfl, u, rfl⟩
  rw [show (fl == fl) = true by simp]
  have hbw8 := Below.drewN' hbw7 u
  have hs48 : SegL (w7.drewN u) A4 k M := hs47
  have hs68 : SegL (w7.drewN u) A6 k M := hs67
  clear hbw7 hs27 hs47 hs67 hs7
  generalize w7.drewN u = w8 at *
  go_wp2_with fail
  refine (same_any A4 A6 k k c4 c6 M M _ hs48 hs68 (by omega)).mono ?_
  rintro e w9 ⟨rfl, u2, rfl⟩
  rw [show (M == M) = true by simp]
  have hbw9 := Below.drewN' hbw8 u2
  have hs49 : SegL (w8.drewN u2) A4 k M := hs48
  clear hbw8 hs48 hs68
  generalize w8.drewN u2 = w9 at *
  obtain ⟨g, o, rfl, hc⟩ := hs49.2 hk0
  obtain ⟨B0, m0, c0, x0, s0, y0, z0⟩ := hc 0 l HM0.out
  rw [Nat.add_zero] at x0
  have hm0 : m0 = n := by rw [← s0.1, HLN.out]
  subst hm0
  have haw := ha.below hbw9
  clear hc hs49
  go_wp2_with fail
  refine (bytes_any B0 A m0 m0 c0 c l l _ s0 haw (by simp only [maxLen]; omega)).mono ?_
  rintro e w10 ⟨rfl, u3, rfl⟩
  rw [show (l == l) = true by simp]
  have hbwa := Below.drewN' hbw9 u3
  clear hbw9 x0 s0 haw
  generalize w9.drewN u3 = w10 at *
  go_wp2
  go_ret
  exact ⟨rfl, hbwa⟩

set_option maxRecDepth 8000 in
set_option maxHeartbeats 4000000 in
theorem walFrames_long (A : Option Addr) (n c : Nat) (A' : Option Addr) (n' c' : Nat) (w : World) (h : ¬ (n ≤ 200 ∧ n' ≤ 60)) (ht : Tab w) :
    Calls Tryd.prog 3 #[.slice A n c, .slice A' n' c'] w fun e w' => e = .returned (.bool true) ∧ Below w.heap.size w w' := by
  have hc : 200 < n ∨ n ≤ 200 ∧ 60 < n' := by omega
  rcases hc with g0 | ⟨g0, g1⟩
  · have d0 : decide ((200 : Int) < (n : Int)) = true := decide_eq_true (by omega)
    go_enter Tryd.func3, Tryd.ntmps3
    go_wp2_with fail
    refine (both_any _ ht).mono ?_
    rintro e w1 ⟨rfl, hb1⟩
    go_wp2_with fail
    refine (both_any _ (Tab.below ht hb1)).mono ?_
    rintro e w2 ⟨rfl, hb2⟩
    go_wp2
    go_ret
    exact ⟨rfl, Below.next' hb1 hb2 hb1.size⟩
  · have d0 : decide ((200 : Int) < (n : Int)) = false := decide_eq_false (by omega)
    have d1 : decide ((60 : Int) < (n' : Int)) = true := decide_eq_true (by omega)
    go_enter Tryd.func3, Tryd.ntmps3
    go_wp2_with fail
    refine (both_any _ ht).mono ?_
    rintro e w1 ⟨rfl, hb1⟩
    go_wp2_with fail
    refine (both_any _ (Tab.below ht hb1)).mono ?_
    rintro e w2 ⟨rfl, hb2⟩
    go_wp2
    go_ret
    exact ⟨rfl, Below.next' hb1 hb2 hb1.size⟩

theorem walFrames_walk (A : Option Addr) (n c : Nat) (l : List UInt8) (A' : Option Addr) (n' c' : Nat) (l' : List UInt8) (w : World) (ha : Seg w A n l) (_ : n ≤ c) (_ : c ≤ maxLen) (ha' : Seg w A' n' l') (_ : n' ≤ c') (_ : c' ≤ maxLen) (ht : Tab w) :
    Calls Tryd.prog 3 #[.slice A n c, .slice A' n' c'] w fun e w' => e = .returned (.bool true) ∧ Below w.heap.size w w' := by
  by_cases hall : n ≤ 200 ∧ n' ≤ 60
  · exact walFrames_core A n c l A' n' c' l' w ha ha' hall.1 hall.2 ht
  · exact walFrames_long A n c A' n' c' w hall ht

end Go.Proofs.YtkmcnkonkalfkaaDoor
