/-
  The walk of the law WalScans.
-/
import Derived.Test.YtkmcnkonkalfkaaDoorWW7
import Derived.Test.YtkmcnkonkalfkaaDoorWW6
import Derived.Test.YtkmcnkonkalfkaaDoorWW5
namespace Go.Proofs.YtkmcnkonkalfkaaDoor
open Go.RowKit

theorem length_le_size : ∀ L : List (List UInt8), L.length ≤ sizeL L := by
  intro L
  induction L with
  | nil => simp [sizeL]
  | cons a L ih => simp only [List.length_cons, sizeL]; omega

set_option maxRecDepth 8000 in
set_option maxHeartbeats 8000000 in
theorem walScans_core (A : Option Addr) (n c : Nat) (l : List UInt8) (A' : Option Addr) (n' c' : Nat) (L : List (List UInt8)) (w : World) (ha : Seg w A n l) (ha' : SegL w A' n' L) (hc' : n' ≤ c') (hcm' : c' ≤ maxLen) (h1 : n ≤ 100) (hS : Small L) (ht : Tab w) :
    Calls Tryd.prog 4 #[.slice A n c, .slice A' n' c'] w fun e w' => e = .returned (.bool true) ∧ Below w.heap.size w w' := by
  have d0 : decide ((100 : Int) < (n : Int)) = false := decide_eq_false (by omega)
  obtain ⟨fl, hfl⟩ : ∃ fl, allL L = fl := ⟨_, rfl⟩
  have HFL := Lib.hid hfl
  obtain ⟨N, hN⟩ : ∃ N, fl.length = N := ⟨_, rfl⟩
  have HF := Lib.hid hN
  have hNb : N ≤ 1360 := by
    have h1 := Small.size (L := L) hS.2
    have h2 := hS.1
    have h3 := allL_length L
    rw [hfl] at h3
    omega
  obtain ⟨d, hd⟩ : ∃ d, fl ++ l = d := ⟨_, rfl⟩
  have HD := Lib.hid hd
  have HDL := Lib.hid (show d.length = N + n by rw [← hd, List.length_append, hN, ha.1])
  have hM : scanL d = L ++ scanL l := by rw [← hd, ← hfl]; exact scan_all L l hS.le
  obtain ⟨M, hM'⟩ : ∃ M, scanL d = M := ⟨_, rfl⟩
  have HMS := Lib.hid hM'
  rw [hM'] at hM
  obtain ⟨k, hk⟩ : ∃ k, M.length = k := ⟨_, rfl⟩
  have HK := Lib.hid hk
  have hkn : n' ≤ k := by rw [← hk, hM, List.length_append, ha'.1]; omega
  obtain ⟨z, hz⟩ : ∃ z, sizeL M = z := ⟨_, rfl⟩
  have HZ := Lib.hid hz
  have hzn : z ≤ N + n := by have := scanL_size d; rw [hM', hz, HDL.out] at this; exact this
  have hkz : k ≤ z := by rw [← hk, ← hz]; exact length_le_size M
  have dk : decide ((n' : Int) ≤ (k : Int)) = true := decide_eq_true (by omega)
  have dz : decide ((z : Int) ≤ ((N + n : Nat) : Int)) = true := decide_eq_true (by omega)
  have dz2 : decide ((z : Int) ≤ (N : Int) + (n : Int)) = true := decide_eq_true (by omega)
  have HS := Lib.hid hS
  clear hM hM' hk hd hfl hN hz hS
  go_enter Tryd.func4, Tryd.ntmps4
  go_wp2_with fail
  refine (both_any _ ht).mono ?_
  rintro e w1 ⟨rfl, hb1⟩
  go_wp2_with fail
  refine (small_any A' n' c' L _ (ha'.below hb1) hc' hcm').mono ?_
  rintro e w0 ⟨⟨b, rfl, hb⟩, rfl⟩
  obtain rfl : b = true := hb.2 HS.out
  clear hb
  go_wp2_with fail
  refine (all_any A' n' c' L _ (ha'.below hb1) HS.out).mono ?_
  rw [HFL.out]
  rintro e w2 ⟨v2, rfl, ho2, hb2⟩
  have hbw2 := Below.next' hb1 hb2 hb1.size
  obtain ⟨A2, c2, rfl, hs2, _, _⟩ := ho2.forms
  rw [HF.out] at hs2 ⊢
  clear ho2 hb1 hb2
  go_wp2_with fail
  refine (join_any A2 A N n c2 c fl l _ hs2 (ha.below hbw2) (by omega)).mono ?_
  rw [HD.out]
  rintro e w3 ⟨v3, rfl, ho3, hb3⟩
  have hbw3 := Below.next' hbw2 hb3 hbw2.size
  obtain ⟨A3, c3, rfl, hs3, hl3, hm3⟩ := ho3.forms
  rw [HDL.out] at hs3 hl3 ⊢
  clear ho3 hb3 hbw2 hs2
  go_wp2_with fail
  refine (scan_any A3 (N + n) c3 d _ hs3 (by omega) hl3 hm3 (Tab.below ht hbw3)).mono ?_
  rw [HMS.out, HZ.out]
  rintro e w4 ⟨v4, rfl, ho4, hb4⟩
  have hbw4 := Below.next' hbw3 hb4 hbw3.size
  have hs34 := hs3.below hb4
  obtain ⟨A4, c4, rfl, hs4, _, _⟩ := ho4.seg
  rw [HK.out] at hs4 ⊢
  clear ho4 hb4 hbw3 hs3
  go_wp2_with fail
  refine (rscan_any A3 (N + n) c3 d _ hs34 (by omega) hl3 hm3).mono ?_
  rw [HMS.out, HZ.out]
  rintro e w6 ⟨v6, rfl, ho6, hb6⟩
  have hbw6 := Below.next' hbw4 hb6 hbw4.size
  have hs46 := hs4.below hb6
  obtain ⟨A6, c6, rfl, hs6, _, _⟩ := ho6.seg
  rw [HK.out] at hs6 ⊢
  clear ho6 hb6 hbw4 hs34 hs4
  go_wp2_with fail
  refine (same_any A4 A6 k k c4 c6 M M _ hs46 hs6 (by omega)).mono ?_
  rintro e w9 ⟨rfl, u2, rfl⟩
  rw [show (M == M) = true by simp]
  have hbw9 := Below.drewN' hbw6 u2
  clear hbw6 hs46 hs6
  generalize w6.drewN u2 = w9 at *
  clear HFL HF HD HDL HMS HK HZ HS ha ha' ht
  go_wp2
  go_ret
  exact ⟨rfl, hbw9⟩

set_option maxRecDepth 8000 in
set_option maxHeartbeats 4000000 in
theorem walScans_long (A : Option Addr) (n c : Nat) (A' : Option Addr) (n' c' : Nat) (L : List (List UInt8)) (w : World) (ha' : SegL w A' n' L) (hc' : n' ≤ c') (hcm' : c' ≤ maxLen) (h : ¬ (n ≤ 100 ∧ Small L)) (ht : Tab w) :
    Calls Tryd.prog 4 #[.slice A n c, .slice A' n' c'] w fun e w' => e = .returned (.bool true) ∧ Below w.heap.size w w' := by
  by_cases h1 : n ≤ 100
  · have d0 : decide ((100 : Int) < (n : Int)) = false := decide_eq_false (by omega)
    go_enter Tryd.func4, Tryd.ntmps4
    go_wp2_with fail
    refine (both_any _ ht).mono ?_
    rintro e w1 ⟨rfl, hb1⟩
    go_wp2_with fail
    refine (small_any A' n' c' L _ (ha'.below hb1) hc' hcm').mono ?_
    rintro e w0 ⟨⟨b, rfl, hb⟩, rfl⟩
    obtain rfl : b = false := by
      rcases b with _ | _
      · rfl
      · exact absurd ⟨h1, hb.1 rfl⟩ h
    clear hb
    go_wp2_with fail
    refine (both_any _ (Tab.below ht hb1)).mono ?_
    rintro e w2 ⟨rfl, hb2⟩
    go_wp2
    go_ret
    exact ⟨rfl, Below.next' hb1 hb2 hb1.size⟩
  · have d0 : decide ((100 : Int) < (n : Int)) = true := decide_eq_true (by omega)
    go_enter Tryd.func4, Tryd.ntmps4
    go_wp2_with fail
    refine (both_any _ ht).mono ?_
    rintro e w1 ⟨rfl, hb1⟩
    go_wp2_with fail
    refine (both_any _ (Tab.below ht hb1)).mono ?_
    rintro e w2 ⟨rfl, hb2⟩
    go_wp2
    go_ret
    exact ⟨rfl, Below.next' hb1 hb2 hb1.size⟩

theorem walScans_walk (A : Option Addr) (n c : Nat) (l : List UInt8) (A' : Option Addr) (n' c' : Nat) (L : List (List UInt8)) (w : World) (ha : Seg w A n l) (_ : n ≤ c) (_ : c ≤ maxLen) (ha' : SegL w A' n' L) (hc' : n' ≤ c') (hcm' : c' ≤ maxLen) (ht : Tab w) :
    Calls Tryd.prog 4 #[.slice A n c, .slice A' n' c'] w fun e w' => e = .returned (.bool true) ∧ Below w.heap.size w w' := by
  by_cases hall : n ≤ 100 ∧ Small L
  · exact walScans_core A n c l A' n' c' L w ha ha' hc' hcm' hall.1 hall.2 ht
  · exact walScans_long A n c A' n' c' L w ha' hc' hcm' hall ht

end Go.Proofs.YtkmcnkonkalfkaaDoor
