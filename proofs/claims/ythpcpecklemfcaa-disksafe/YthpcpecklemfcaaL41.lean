/-
  The walk of the law DiskSafe.
-/
import Derived.Test.YthpcpecklemfcaaDK4
import Derived.Test.YthpcpecklemfcaaOpenG
import Derived.OpenShut
namespace Go.Proofs.Ythpcpecklemfcaa
open Go.RowKit

set_option maxRecDepth 8000 in
set_option maxHeartbeats 8000000 in
theorem diskSafe_core (A : Option Addr) (n c : Nat) (L : List DAct) (w : World) (ha : SegDA w A n L) (h1 : n ≤ 60) :
    Calls Try.prog 4 #[.slice A n c] w fun e w' => e = .returned (.bool true) ∧ Below w.heap.size w w' := by
  have d0 : decide ((60 : Int) < (n : Int)) = false := decide_eq_false (by omega)
  go_enter Try.func4, Try.ntmps4
  go_wp2_with fail
  refine (keeps_any _).mono ?_
  rintro e w1 ⟨rfl, hb1⟩
  go_wp2_with fail
  refine (new_any none 0 0 [] _ (Seg.nil _ _) (by omega)).mono ?_
  rintro e w2 ⟨g, v2, rfl, hd2, hb2⟩
  have hbw2 := Below.next' hb1 hb2 hb1.size
  have hz1 := hb1.size
  have hgB := hd2.hB
  clear hb1 hb2
  go_wp2_with fail
  go_loopw [4, 5, 6, 7] (fun i _ _ _ w' => ∃ (k : Nat) (v : Value) (q : List UInt8) (s : Nat), k ≤ n ∧ i = .int .i64 k ∧ Dk w' w1.heap.size g v q s false 0 ∧ q.length ≤ 40 * k ∧ Below w.heap.size w w') (fun i _ _ _ _ => n - (intOf i).toNat)
  case atStart => exact ⟨0, v2, [], 0, by omega, rfl, hd2, by simp, hbw2⟩
  case round =>
    clear hd2 hbw2
    obtain ⟨k, v, q, s, hk, rfl, hdk, hq, hbw⟩ := hrel
    by_cases hlt : k < n
    · obtain ⟨x, hx⟩ : ∃ x, L[k]'(by rw [ha.len]; exact hlt) = x := ⟨_, rfl⟩
      obtain ⟨gA, oA, B, m, cB, rfl, q0, q1, q2, hsB0, hmc, hcm, hxd, hx1, hx2⟩ := ha.at_ hlt x hx
      clear hx
      obtain ⟨xd, xn, xp⟩ := x
      simp only at q0 q1 hsB0 hxd hx1 hx2
      have q0 := cell_below hbw q0
      have q1 := cell_below hbw q1
      have q2 := cell_below hbw q2
      have hsB := hsB0.below hbw
      by_cases hm : m ≤ 40
      · have dm : decide ((40 : Int) < (m : Int)) = false := decide_eq_false (by omega)
        go_wp2_with fail
        have hlt4 := hdk.lt
        have hx0 : (wr.alloc (.cells #[.int .u8 (xd : Int), .int .i64 xn, .slice B m cB] 30)).cell? ⟨wr.heap.size, 0, none⟩ = some (.int .u8 (xd : Int)) := by simp
        have hx1' : (wr.alloc (.cells #[.int .u8 (xd : Int), .int .i64 xn, .slice B m cB] 30)).cell? ⟨wr.heap.size, 1, none⟩ = some (.int .i64 xn) := by simp
        have hx2' : (wr.alloc (.cells #[.int .u8 (xd : Int), .int .i64 xn, .slice B m cB] 30)).cell? ⟨wr.heap.size, 2, none⟩ = some (.slice B m cB) := by simp
        have hd4 := hdk.alloc (.cells #[.int .u8 (xd : Int), .int .i64 xn, .slice B m cB] 30)
        have hsB4 := hsB.alloc (.cells #[.int .u8 (xd : Int), .int .i64 xn, .slice B m cB] 30)
        have hbw4 := hbw.alloc hbw.size (.cells #[.int .u8 (xd : Int), .int .i64 xn, .slice B m cB] 30)
        have hz4 : wr.heap.size ≤ (wr.alloc (.cells #[.int .u8 (xd : Int), .int .i64 xn, .slice B m cB] 30)).heap.size := by simp
        obtain ⟨b, hb⟩ : ∃ b, wr.heap.size = b := ⟨_, rfl⟩
        rw [hb] at hx0 hx1' hx2' hz4 hlt4 ⊢
        generalize wr.alloc (.cells #[.int .u8 (xd : Int), .int .i64 xn, .slice B m cB] 30) = w4 at *
        clear q0 q1 q2 hbw hdk hb
        have hsq := hd4.hs
        refine (dread_any hd4 (by omega)).mono ?_
        rintro e w5 ⟨v5, rfl, ho5, hb5⟩
        obtain ⟨A5, c5, rfl, hs5, hlc5, _⟩ := ho5.forms
        have hd5 := hd4.below hb5
        have hsB5 := hsB4.below hb5
        have hx05 := cell_below hb5 hx0
        have hx15 := cell_below hb5 hx1'
        have hx25 := cell_below hb5 hx2'
        have hbw5 := Below.next' hbw4 hb5 hbw4.size
        have hz5 := hb5.size
        clear hd4 hsB4 hx0 hx1' hx2' hbw4 hb5 ho5
        go_wp2_with fail
        refine (safe_any hd5.dc).mono ?_
        rintro e w6 ⟨rfl, rfl⟩
        have hsc5 : s ≤ c5 := by omega
        go_wp2_with fail
        refine (join_any A5 none s 0 c5 0 (q.take s) [] _ (hs5.upto s hsq) (Seg.nil _ _) (by omega)).mono ?_
        rintro e w7 ⟨v7, rfl, ho7, hb7⟩
        rw [List.append_nil] at ho7
        have hA6' := ho7.lt
        obtain ⟨A6, c6, rfl, hs7, _, _⟩ := ho7.forms
        rw [show (q.take s).length = s by rw [List.length_take]; omega] at hs7 hA6' ⊢
        have hA6 : ∀ a, A6 = some a → ¬ DkS g v a.block := by
          intro a e h
          subst e
          have := (hA6' a.block rfl).1
          have := hlt4 _ h
          omega
        have hd7 := hd5.below hb7
        have hsB7 := hsB5.below hb7
        have hx07 := cell_below hb7 hx05
        have hx17 := cell_below hb7 hx15
        have hx27 := cell_below hb7 hx25
        have hbw7 := Below.next' hbw5 hb7 hbw5.size
        clear hd5 hsB5 hx05 hx15 hx25 hbw5 hb7 ho7 hs5 hA6'
        obtain ⟨r, hr⟩ : ∃ r, xd % 4 = r := ⟨_, rfl⟩
        have hm1 : (xd : Int) % 4 = (r : Int) := by omega
        have hm2 : Int.tmod (xd : Int) 4 = (r : Int) := by rw [Int.tmod_eq_emod_of_nonneg (by omega)]; omega
        have hc : r = 0 ∨ r = 1 ∨ r = 2 ∨ r = 3 := by omega
        clear hr
        rcases hc with rfl | rfl | rfl | rfl
        · go_wp2_with fail
          refine (append_ok hd7 rfl B m cB xp hsB7 (fun h a e => by have := hsB0.lt h a e; omega) (by omega)).mono ?_
          rintro e w8 ⟨rfl, v8, hd8, ho8, _⟩
          rw [dn_false] at hd8
          have hs8 := hs7.only ho8 (fun _ a e hk => hA6 a e hk)
          have hbw8 := (hd7.mono hz1).belows hbw7 ho8
          obtain ⟨q8, hq8'⟩ : ∃ q8, q ++ xp = q8 := ⟨_, rfl⟩
          rw [hq8'] at hd8
          have hq8 : q8.take s = q.take s := by rw [← hq8', List.take_append_of_le_length hsq]
          have hl8 : q8.length ≤ 40 * k + 40 := by rw [← hq8', List.length_append, hsB.1]; omega
          have hl9 : q.length ≤ q8.length := by rw [← hq8', List.length_append]; omega
          obtain ⟨s8, hs8e, hss⟩ : ∃ s8, s8 = s ∧ s ≤ s8 := ⟨s, rfl, Nat.le_refl _⟩
          rw [← hs8e] at hd8
          clear hq8' hs8e
          -- the tail: what is there is what was, and some more
          have HQ8 := Lib.hid hq8
          have HL8 := Lib.hid hl8
          have h9 := hd8.hs
          obtain ⟨n8, hn8⟩ : ∃ n8, q8.length = n8 := ⟨_, rfl⟩
          have HN8 := Lib.hid hn8
          rw [hn8] at hl8 h9
          have hn9 : n8 ≤ 1000000 := by omega
          clear hn8 hq8
          go_wp2_with fail
          refine (dread_any hd8 (by rw [HN8.out]; exact hn9)).mono ?_
          rintro e w9 ⟨v9, rfl, ho9, hb9⟩
          obtain ⟨A9, c9, rfl, hs9, hlc9, _⟩ := ho9.forms
          rw [HN8.out] at hs9 hlc9 ⊢
          have hd9 := hd8.below hb9
          have hs69 := hs8.below hb9
          have hbw9 := Below.next' hbw8 hb9 hbw8.size
          have dl0 : decide ((n8 : Int) < (s : Int)) = false := decide_eq_false (by omega)
          have hle : s ≤ c9 := by omega
          clear hd8 hs8 hbw8 hb9 ho9
          go_wp2_with fail
          refine (bytes_any A9 A6 s s c9 c6 (q8.take s) (q.take s) _ (hs9.upto s (by omega)) hs69 (by simp only [maxLen]; omega)).mono ?_
          rintro e w10 ⟨rfl, u, rfl⟩
          rw [HQ8.out, show (q.take s == q.take s) = true by simp]
          have hda := hd9.drewN u
          have hbwa := Below.drewN' hbw9 u
          clear hd9 hs69 hbw9 hs9
          generalize w9.drewN u = w10 at *
          go_wp2_with fail
          refine (safe_any hda.dc).mono ?_
          rintro e w11 ⟨rfl, rfl⟩
          have dl1 : decide ((n8 : Int) < (s8 : Int)) = false := decide_eq_false (by omega)
          go_wp2_with fail
          refine (safe_any hda.dc).mono ?_
          rintro e w12 ⟨rfl, rfl⟩
          have dl2 : decide ((s8 : Int) < (s : Int)) = false := decide_eq_false (by omega)
          go_wp2
          go_roundw
          case rel => exact ⟨k + 1, v8, q8, s8, by omega, by go_num, hda, by rw [HN8.out]; omega, hbwa⟩
          case measure => simp [intOf]; omega
        · go_wp2_with fail
          refine (append_ok hd7 rfl B m cB xp hsB7 (fun h a e => by have := hsB0.lt h a e; omega) (by omega)).mono ?_
          rintro e w8 ⟨rfl, v8, hd8, ho8, _⟩
          rw [dn_false] at hd8
          have hs8 := hs7.only ho8 (fun _ a e hk => hA6 a e hk)
          have hbw8 := (hd7.mono hz1).belows hbw7 ho8
          obtain ⟨q8, hq8'⟩ : ∃ q8, q ++ xp = q8 := ⟨_, rfl⟩
          rw [hq8'] at hd8
          have hq8 : q8.take s = q.take s := by rw [← hq8', List.take_append_of_le_length hsq]
          have hl8 : q8.length ≤ 40 * k + 40 := by rw [← hq8', List.length_append, hsB.1]; omega
          have hl9 : q.length ≤ q8.length := by rw [← hq8', List.length_append]; omega
          obtain ⟨s8, hs8e, hss⟩ : ∃ s8, s8 = s ∧ s ≤ s8 := ⟨s, rfl, Nat.le_refl _⟩
          rw [← hs8e] at hd8
          clear hq8' hs8e
          -- the tail: what is there is what was, and some more
          have HQ8 := Lib.hid hq8
          have HL8 := Lib.hid hl8
          have h9 := hd8.hs
          obtain ⟨n8, hn8⟩ : ∃ n8, q8.length = n8 := ⟨_, rfl⟩
          have HN8 := Lib.hid hn8
          rw [hn8] at hl8 h9
          have hn9 : n8 ≤ 1000000 := by omega
          clear hn8 hq8
          go_wp2_with fail
          refine (dread_any hd8 (by rw [HN8.out]; exact hn9)).mono ?_
          rintro e w9 ⟨v9, rfl, ho9, hb9⟩
          obtain ⟨A9, c9, rfl, hs9, hlc9, _⟩ := ho9.forms
          rw [HN8.out] at hs9 hlc9 ⊢
          have hd9 := hd8.below hb9
          have hs69 := hs8.below hb9
          have hbw9 := Below.next' hbw8 hb9 hbw8.size
          have dl0 : decide ((n8 : Int) < (s : Int)) = false := decide_eq_false (by omega)
          have hle : s ≤ c9 := by omega
          clear hd8 hs8 hbw8 hb9 ho9
          go_wp2_with fail
          refine (bytes_any A9 A6 s s c9 c6 (q8.take s) (q.take s) _ (hs9.upto s (by omega)) hs69 (by simp only [maxLen]; omega)).mono ?_
          rintro e w10 ⟨rfl, u, rfl⟩
          rw [HQ8.out, show (q.take s == q.take s) = true by simp]
          have hda := hd9.drewN u
          have hbwa := Below.drewN' hbw9 u
          clear hd9 hs69 hbw9 hs9
          generalize w9.drewN u = w10 at *
          go_wp2_with fail
          refine (safe_any hda.dc).mono ?_
          rintro e w11 ⟨rfl, rfl⟩
          have dl1 : decide ((n8 : Int) < (s8 : Int)) = false := decide_eq_false (by omega)
          go_wp2_with fail
          refine (safe_any hda.dc).mono ?_
          rintro e w12 ⟨rfl, rfl⟩
          have dl2 : decide ((s8 : Int) < (s : Int)) = false := decide_eq_false (by omega)
          go_wp2
          go_roundw
          case rel => exact ⟨k + 1, v8, q8, s8, by omega, by go_num, hda, by rw [HN8.out]; omega, hbwa⟩
          case measure => simp [intOf]; omega
        · go_wp2_with fail
          refine (sync_ok hd7 rfl).mono ?_
          rintro e w8 ⟨rfl, hd8, ho8⟩
          rw [dn_false] at hd8
          have hs8 := hs7.only ho8 (fun _ a e hk => hA6 a e (.inl hk))
          have hbw8 := (hd7.mono hz1).belowg hbw7 ho8
          obtain ⟨q8, hq8'⟩ : ∃ q8, q8 = q := ⟨_, rfl⟩
          obtain ⟨v8, hv8'⟩ : ∃ v8, v8 = v := ⟨_, rfl⟩
          have hq8 : q8.take s = q.take s := by rw [hq8']
          have hl8 : q8.length ≤ 40 * k + 40 := by rw [hq8']; omega
          have hl9 : q.length ≤ q8.length := by rw [hq8']; exact Nat.le_refl _
          obtain ⟨s8, hs8e, hss⟩ : ∃ s8, s8 = q.length ∧ s ≤ s8 := ⟨_, rfl, hsq⟩
          rw [← hs8e, ← hq8', ← hv8'] at hd8
          clear hq8' hs8e hv8'
          -- the tail: what is there is what was, and some more
          have HQ8 := Lib.hid hq8
          have HL8 := Lib.hid hl8
          have h9 := hd8.hs
          obtain ⟨n8, hn8⟩ : ∃ n8, q8.length = n8 := ⟨_, rfl⟩
          have HN8 := Lib.hid hn8
          rw [hn8] at hl8 h9
          have hn9 : n8 ≤ 1000000 := by omega
          clear hn8 hq8
          go_wp2_with fail
          refine (dread_any hd8 (by rw [HN8.out]; exact hn9)).mono ?_
          rintro e w9 ⟨v9, rfl, ho9, hb9⟩
          obtain ⟨A9, c9, rfl, hs9, hlc9, _⟩ := ho9.forms
          rw [HN8.out] at hs9 hlc9 ⊢
          have hd9 := hd8.below hb9
          have hs69 := hs8.below hb9
          have hbw9 := Below.next' hbw8 hb9 hbw8.size
          have dl0 : decide ((n8 : Int) < (s : Int)) = false := decide_eq_false (by omega)
          have hle : s ≤ c9 := by omega
          clear hd8 hs8 hbw8 hb9 ho9
          go_wp2_with fail
          refine (bytes_any A9 A6 s s c9 c6 (q8.take s) (q.take s) _ (hs9.upto s (by omega)) hs69 (by simp only [maxLen]; omega)).mono ?_
          rintro e w10 ⟨rfl, u, rfl⟩
          rw [HQ8.out, show (q.take s == q.take s) = true by simp]
          have hda := hd9.drewN u
          have hbwa := Below.drewN' hbw9 u
          clear hd9 hs69 hbw9 hs9
          generalize w9.drewN u = w10 at *
          go_wp2_with fail
          refine (safe_any hda.dc).mono ?_
          rintro e w11 ⟨rfl, rfl⟩
          have dl1 : decide ((n8 : Int) < (s8 : Int)) = false := decide_eq_false (by omega)
          go_wp2_with fail
          refine (safe_any hda.dc).mono ?_
          rintro e w12 ⟨rfl, rfl⟩
          have dl2 : decide ((s8 : Int) < (s : Int)) = false := decide_eq_false (by omega)
          go_wp2
          go_roundw
          case rel => exact ⟨k + 1, v8, q8, s8, by omega, by go_num, hda, by rw [HN8.out]; omega, hbwa⟩
          case measure => simp [intOf]; omega
        · go_wp2_with fail
          refine (crash_any hd7 xn (by omega)).mono ?_
          rintro e w8 ⟨rfl, v8, hd8, ho8, _⟩
          have hs8 := hs7.only ho8 (fun _ a e hk => hA6 a e (.inl hk))
          have hbw8 := (hd7.mono hz1).belowg hbw7 ho8
          obtain ⟨t, ht⟩ : ∃ t, s + min xn.toNat (q.length - s) = t := ⟨_, rfl⟩
          rw [ht] at hd8
          obtain ⟨q8, hq8'⟩ : ∃ q8, q.take t = q8 := ⟨_, rfl⟩
          rw [hq8'] at hd8
          have hq8 : q8.take s = q.take s := by rw [← hq8', List.take_take, Nat.min_eq_left (by omega)]
          have hl8 : q8.length ≤ 40 * k + 40 := by rw [← hq8', List.length_take]; omega
          have hl9 : s ≤ q8.length := by rw [← hq8', List.length_take]; omega
          obtain ⟨s8, hs8e, hss⟩ : ∃ s8, s8 = t ∧ s ≤ s8 := ⟨_, rfl, by omega⟩
          rw [← hs8e] at hd8
          clear hq8' hs8e ht
          -- the tail: what is there is what was, and some more
          have HQ8 := Lib.hid hq8
          have HL8 := Lib.hid hl8
          have h9 := hd8.hs
          obtain ⟨n8, hn8⟩ : ∃ n8, q8.length = n8 := ⟨_, rfl⟩
          have HN8 := Lib.hid hn8
          rw [hn8] at hl8 h9
          have hn9 : n8 ≤ 1000000 := by omega
          clear hn8 hq8
          go_wp2_with fail
          refine (dread_any hd8 (by rw [HN8.out]; exact hn9)).mono ?_
          rintro e w9 ⟨v9, rfl, ho9, hb9⟩
          obtain ⟨A9, c9, rfl, hs9, hlc9, _⟩ := ho9.forms
          rw [HN8.out] at hs9 hlc9 ⊢
          have hd9 := hd8.below hb9
          have hs69 := hs8.below hb9
          have hbw9 := Below.next' hbw8 hb9 hbw8.size
          have dl0 : decide ((n8 : Int) < (s : Int)) = false := decide_eq_false (by omega)
          have hle : s ≤ c9 := by omega
          clear hd8 hs8 hbw8 hb9 ho9
          go_wp2_with fail
          refine (bytes_any A9 A6 s s c9 c6 (q8.take s) (q.take s) _ (hs9.upto s (by omega)) hs69 (by simp only [maxLen]; omega)).mono ?_
          rintro e w10 ⟨rfl, u, rfl⟩
          rw [HQ8.out, show (q.take s == q.take s) = true by simp]
          have hda := hd9.drewN u
          have hbwa := Below.drewN' hbw9 u
          clear hd9 hs69 hbw9 hs9
          generalize w9.drewN u = w10 at *
          go_wp2_with fail
          refine (safe_any hda.dc).mono ?_
          rintro e w11 ⟨rfl, rfl⟩
          have dl1 : decide ((n8 : Int) < (s8 : Int)) = false := decide_eq_false (by omega)
          go_wp2_with fail
          refine (safe_any hda.dc).mono ?_
          rintro e w12 ⟨rfl, rfl⟩
          have dl2 : decide ((s8 : Int) < (s : Int)) = false := decide_eq_false (by omega)
          go_wp2
          go_roundw
          case rel => exact ⟨k + 1, v8, q8, s8, by omega, by go_num, hda, by rw [HN8.out]; omega, hbwa⟩
          case measure => simp [intOf]; omega
      · have dm : decide ((40 : Int) < (m : Int)) = true := decide_eq_true (by omega)
        go_wp2
        go_ret
        exact ⟨rfl, hbw.alloc hbw.size _⟩
    · obtain rfl : n = k := by omega
      go_wp2
      go_ret
      exact ⟨rfl, hbw⟩

set_option maxRecDepth 8000 in
set_option maxHeartbeats 4000000 in
theorem diskSafe_long (A : Option Addr) (n c : Nat) (w : World) (h : 60 < n) :
    Calls Try.prog 4 #[.slice A n c] w fun e w' => e = .returned (.bool true) ∧ Below w.heap.size w w' := by
  have d0 : decide ((60 : Int) < (n : Int)) = true := decide_eq_true (by omega)
  go_enter Try.func4, Try.ntmps4
  go_wp2_with fail
  refine (keeps_any _).mono ?_
  rintro e w1 ⟨rfl, hb1⟩
  go_wp2_with fail
  refine (keeps_any _).mono ?_
  rintro e w2 ⟨rfl, hb2⟩
  go_wp2
  go_ret
  exact ⟨rfl, Below.next' hb1 hb2 hb1.size⟩

theorem diskSafe_walk (A : Option Addr) (n c : Nat) (L : List DAct) (w : World) (ha : SegDA w A n L) (_ : n ≤ c) (_ : c ≤ maxLen) :
    Calls Try.prog 4 #[.slice A n c] w fun e w' => e = .returned (.bool true) ∧ Below w.heap.size w w' := by
  by_cases h : n ≤ 60
  · exact diskSafe_core A n c L w ha h
  · exact diskSafe_long A n c w (by omega)

end Go.Proofs.Ythpcpecklemfcaa
