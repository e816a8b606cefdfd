/-
  The walk of the law DiskFails.
-/
import Derived.Test.YteeciicneedheaaDK4
import Derived.OpenShut
namespace Go.Proofs.Yteeciicneedheaa
open Go.RowKit

theorem least_any (x y : Int) (a b m : Nat) (w : World) (hx : x = (a : Int)) (hy : y = (b : Int)) (hm : min a b = m) :
    Calls Try.prog 26 #[.int .i64 x, .int .i64 y] w fun e w' => e = .returned (.int .i64 (m : Int)) ∧ w' = w := by
  subst hx hy
  by_cases h : a < b
  · have h' : (a : Int) < (b : Int) := by omega
    obtain rfl : a = m := by omega
    go_enter Try.func26, Try.ntmps26
    go_wp2
    go_ret
    exact ⟨rfl, rfl⟩
  · have h' : ¬ ((a : Int) < (b : Int)) := by omega
    obtain rfl : b = m := by omega
    go_enter Try.func26, Try.ntmps26
    go_wp2
    go_ret
    exact ⟨rfl, rfl⟩

set_option maxRecDepth 8000 in
set_option maxHeartbeats 8000000 in
theorem diskFails_core (k f : Nat) (hk : k < 256) (hf : k % 9 = f) (A : Option Addr) (n c : Nat) (l : List UInt8) (w : World) (ha : Seg w A n l) (h1 : n ≤ 20) :
    Calls Try.prog 5 #[.int .u8 (k : Int), .slice A n c] w fun e w' => e = .returned (.bool true) ∧ Below w.heap.size w w' := by
  have d0 : decide ((20 : Int) < (n : Int)) = false := decide_eq_false (by omega)
  have hm1 : (k : Int) % 9 = (f : Int) := by omega
  have hm2 : Int.tmod (k : Int) 9 = (f : Int) := by rw [Int.tmod_eq_emod_of_nonneg (by omega)]; omega
  have hf8 : f ≤ 8 := by omega
  have HLN := Lib.hid ha.1
  clear hf
  go_enter Try.func5, Try.ntmps5
  go_wp2_with fail
  refine (keeps_any _).mono ?_
  rintro e w1 ⟨rfl, hb1⟩
  go_wp2_with fail
  refine (new_any none 0 0 [] _ (Seg.nil _ _) (by omega)).mono ?_
  rintro e w2 ⟨g, v2, rfl, hd2, hb2⟩
  have hbw2 := Below.next' hb1 hb2 hb1.size
  have hz1 := hb1.size
  go_wp2_with fail
  refine (fail_any hd2 (f : Int) (by omega)).mono ?_
  rintro e w3 ⟨rfl, hd3, ho3⟩
  rw [show decide ((0 : Int) ≤ (f : Int)) = true from decide_eq_true (by omega)] at hd3
  have hbw3 := ho3.below hbw2 (fun i (e : i = g) => by have := hd2.hB; omega) hbw2.size
  have hgB := hd2.hB
  clear hd2 hb2 ho3 hbw2 hb1
  go_wp2_with fail
  go_loopw [6, 7] (fun i _ w' => ∃ (j : Nat) (v : Value) (q : List UInt8), j ≤ 12 ∧ i = .int .i64 j ∧ Dk w' w1.heap.size g v q 0 true (((f - min j f : Nat)) : Int) ∧ q.length = n * min j f ∧ Below w.heap.size w w') (fun i _ _ => 12 - (intOf i).toNat)
  case atStart => exact ⟨0, v2, [], by omega, rfl, by rw [show f - min 0 f = f by omega]; exact hd3, by simp, hbw3⟩
  case round =>
    clear hd3 hbw3
    obtain ⟨j, v, q, hj, rfl, hdk, hq, hbw⟩ := hrel
    have HQ := Lib.hid hq
    have hq9 : q.length ≤ 160 := by rw [hq]; exact Nat.le_trans (Nat.mul_le_mul h1 (show min j f ≤ 8 by omega)) (by omega)
    have hap : 0 < n → ∀ a, A = some a → a.block ≠ g := fun h a e => by have := ha.lt h a e; omega
    have hpa := ha.below hbw
    clear hq
    by_cases hlt : j < 12
    · by_cases hjf : j < f
      · have hbl : decide ((j : Int) < (f : Int)) = true := decide_eq_true (by omega)
        have hc1 : f - min j f = f - j := by omega
        rw [hc1] at hdk
        have hwk : wk true ((f - j : Nat) : Int) = true := by simp [wk]; omega
        have hdn : dn true ((f - j : Nat) : Int) = ((f - min (j + 1) f : Nat) : Int) := by unfold dn; rw [if_pos ⟨rfl, by omega⟩]; omega
        go_wp2_with fail
        refine (append_ok hdk hwk A n c l hpa hap (by omega)).mono ?_
        rintro e w4 ⟨rfl, v4, hd4, ho4, _⟩
        rw [hdn] at hd4
        have hbw4 := ho4.below hbw (fun i hi => Nat.le_trans hz1 (hdk.ge i hi)) hbw.size
        obtain ⟨q4, hq4⟩ : ∃ q4, q ++ l = q4 := ⟨_, rfl⟩
        obtain ⟨m, hm⟩ : ∃ m, q4.length = m := ⟨_, rfl⟩
        have hmm : m = n * (j + 1) := by rw [← hm, ← hq4, List.length_append, HQ.out, HLN.out, show min j f = j by omega, Nat.mul_succ]
        have HMM := Lib.hid hmm
        have HM := Lib.hid hm
        rw [hq4] at hd4
        have hm9 : m ≤ 180 := by rw [← hm, ← hq4, List.length_append, HLN.out]; omega
        have hprod : (n : Int) * ((j + 1 : Nat) : Int) = (m : Int) := by rw [hmm]; simp
        have hwrm : IntKind.i64.wrap (m : Int) = (m : Int) := IntWalk.i64_in _ (by omega)
        clear hmm hm hdk hwk hdn hbw hpa ho4 hq4
        obtain ⟨M, hM⟩ : ∃ M, j + 1 = M := ⟨_, rfl⟩
        rw [hM] at hprod
        have HMJ := Lib.hid hM
        clear hM
        go_wp2_with fail
        refine (dread_any hd4 (by rw [HM.out]; omega)).mono ?_
        rintro e w5 ⟨v5, rfl, ho5, hb5⟩
        obtain ⟨A5, c5, rfl, _, _, _⟩ := ho5.forms
        rw [HM.out]
        have hd5 := hd4.below hb5
        have hbw5 := Below.next' hbw4 hb5 hbw4.size
        clear hd4 hb5 hbw4 ho5
        go_wp2_with fail
        refine (least_any _ _ (j + 1) f M _ (by omega) rfl (by rw [← HMJ.out]; omega)).mono ?_
        rintro e w6 ⟨rfl, rfl⟩
        go_wp2
        go_roundw
        case rel => exact ⟨j + 1, _, q4, by omega, by go_num, hd5, by rw [HM.out, HMM.out, show min (j + 1) f = j + 1 by omega], hbw5⟩
        case measure => simp [intOf]; omega
      · have hbl : decide ((j : Int) < (f : Int)) = false := decide_eq_false (by omega)
        have hc1 : f - min j f = 0 := by omega
        rw [hc1] at hdk
        have hwk : wk true ((0 : Nat) : Int) = false := rfl
        have hdn : dn true ((0 : Nat) : Int) = ((f - min (j + 1) f : Nat) : Int) := by rw [show f - min (j + 1) f = 0 by omega]; rfl
        go_wp2_with fail
        refine (append_bad hdk hwk _).mono ?_
        rintro e w4 ⟨rfl, hd4, ho4⟩
        rw [hdn] at hd4
        have hbw4 := ho4.below hbw (fun i (e : i = g) => by omega) hbw.size
        obtain ⟨m, hm⟩ : ∃ m, q.length = m := ⟨_, rfl⟩
        have hmm : m = n * f := by rw [← hm, HQ.out, show min j f = f by omega]
        have HMM := Lib.hid hmm
        have HM := Lib.hid hm
        have hm9 : m ≤ 180 := by omega
        have hprod : (n : Int) * (f : Int) = (m : Int) := by rw [hmm]; simp
        have hwrm : IntKind.i64.wrap (m : Int) = (m : Int) := IntWalk.i64_in _ (by omega)
        clear hmm hm hdk hwk hdn hbw hpa ho4
        go_wp2_with fail
        refine (dread_any hd4 (by rw [HM.out]; omega)).mono ?_
        rintro e w5 ⟨v5, rfl, ho5, hb5⟩
        obtain ⟨A5, c5, rfl, _, _, _⟩ := ho5.forms
        rw [HM.out]
        have hd5 := hd4.below hb5
        have hbw5 := Below.next' hbw4 hb5 hbw4.size
        clear hd4 hb5 hbw4 ho5
        go_wp2_with fail
        refine (least_any _ _ (j + 1) f f _ (by omega) rfl (by omega)).mono ?_
        rintro e w6 ⟨rfl, rfl⟩
        go_wp2
        go_roundw
        case rel => exact ⟨j + 1, _, q, by omega, by go_num, hd5, by rw [HM.out, HMM.out, show min (j + 1) f = f by omega], hbw5⟩
        case measure => simp [intOf]; omega
    · obtain rfl : j = 12 := by omega
      have hc1 : f - min 12 f = 0 := by omega
      rw [hc1] at hdk
      go_wp2_with fail
      refine (sync_bad hdk rfl).mono ?_
      rintro e w4 ⟨rfl, hd4, ho4⟩
      rw [show dn true ((0 : Nat) : Int) = 0 from rfl] at hd4
      have hbw4 := ho4.below hbw (fun i (e : i = g) => by omega) hbw.size
      clear hdk hbw ho4 hpa
      go_wp2_with fail
      refine (cut_bad hd4 rfl _).mono ?_
      rintro e w5 ⟨rfl, hd5, ho5⟩
      rw [show dn true 0 = 0 from rfl] at hd5
      have hbw5 := ho5.below hbw4 (fun i (e : i = g) => by omega) hbw4.size
      clear hd4 hbw4 ho5
      go_wp2_with fail
      refine (safe_any hd5.dc).mono ?_
      rintro e w6 ⟨rfl, rfl⟩
      go_wp2_with fail
      refine (crash_any hd5 _ (by omega)).mono ?_
      rintro e w7 ⟨rfl, v7, hd7, ho7, _⟩
      have hbw7 := ho7.below hbw5 (fun i (e : i = g) => by omega) hbw5.size
      have hpb := ha.below hbw7
      obtain ⟨q7, hq7⟩ : ∃ q7, q.take (0 + min (n : Int).toNat (q.length - 0)) = q7 := ⟨_, rfl⟩
      rw [hq7] at hd7
      have hl7 : q7.length ≤ 160 := by rw [← hq7, List.length_take]; omega
      clear hd5 hbw5 ho7 hq7
      go_wp2_with fail
      refine (append_ok hd7 rfl A n c l hpb hap (by omega)).mono ?_
      rintro e w8 ⟨rfl, v8, hd8, ho8, _⟩
      rw [dn_false] at hd8
      have hbw8 := ho8.below hbw7 (fun i hi => Nat.le_trans hz1 (hd7.ge i hi)) hbw7.size
      clear hd7 hbw7 ho8 hpb
      go_wp2_with fail
      refine (sync_ok hd8 rfl).mono ?_
      rintro e w9 ⟨rfl, hd9, ho9⟩
      have hbw9 := ho9.below hbw8 (fun i (e : i = g) => by omega) hbw8.size
      go_wp2
      go_ret
      exact ⟨rfl, hbw9⟩

set_option maxRecDepth 8000 in
set_option maxHeartbeats 4000000 in
theorem diskFails_long (x : Int) (A : Option Addr) (n c : Nat) (w : World) (h : 20 < n) :
    Calls Try.prog 5 #[.int .u8 x, .slice A n c] w fun e w' => e = .returned (.bool true) ∧ Below w.heap.size w w' := by
  have d0 : decide ((20 : Int) < (n : Int)) = true := decide_eq_true (by omega)
  go_enter Try.func5, Try.ntmps5
  go_wp2_with fail
  refine (keeps_any _).mono ?_
  rintro e w1 ⟨rfl, hb1⟩
  go_wp2_with fail
  refine (keeps_any _).mono ?_
  rintro e w2 ⟨rfl, hb2⟩
  go_wp2
  go_ret
  exact ⟨rfl, Below.next' hb1 hb2 hb1.size⟩

theorem diskFails_walk (x : Int) (A : Option Addr) (n c : Nat) (l : List UInt8) (w : World) (hx : (Lit.int .u8 x).wf = true) (ha : Seg w A n l) (_ : n ≤ c) (_ : c ≤ maxLen) :
    Calls Try.prog 5 #[.int .u8 x, .slice A n c] w fun e w' => e = .returned (.bool true) ∧ Below w.heap.size w w' := by
  by_cases h : n ≤ 20
  · obtain ⟨k, rfl⟩ := Int.eq_ofNat_of_zero_le (bounds_u8 hx).1
    have := (bounds_u8 hx).2
    exact diskFails_core k (k % 9) (by omega) rfl A n c l w ha h
  · exact diskFails_long x A n c w (by omega)

end Go.Proofs.Yteeciicneedheaa
