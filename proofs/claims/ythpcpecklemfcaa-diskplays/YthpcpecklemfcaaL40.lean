/-
  The walk of the law DiskPlays.
-/
import Derived.Test.YthpcpecklemfcaaDK5
import Derived.Test.YthpcpecklemfcaaOpenG
import Derived.Test.YthpcpecklemfcaaQV
import Derived.OpenShut
namespace Go.Proofs.Ythpcpecklemfcaa
open Go.RowKit

set_option maxRecDepth 8000 in
set_option maxHeartbeats 80000000 in
theorem diskPlays_core (A0 : Option Addr) (n0 c0 : Nat) (l0 : List UInt8) (A : Option Addr) (n c : Nat) (L : List DAct) (w : World) (hp : Seg w A0 n0 l0) (ha : SegDA w A n L) (h0 : n0 ≤ 60) (h1 : n ≤ 80) :
    Calls Try.prog 3 #[.slice A0 n0 c0, .slice A n c] w fun e w' => e = .returned (.bool true) ∧ Below w.heap.size w w' := by
  have d0 : decide ((60 : Int) < (n0 : Int)) = false := decide_eq_false (by omega)
  have d1 : decide ((80 : Int) < (n : Int)) = false := decide_eq_false (by omega)
  go_enter Try.func3, Try.ntmps3
  go_wp2_with fail
  refine (keeps_any _).mono ?_
  rintro e w1 ⟨rfl, hb1⟩
  have hp1 := hp.below hb1
  go_wp2_with fail
  refine (new_any A0 n0 c0 l0 _ hp1 (by omega)).mono ?_
  rintro e w2 ⟨g, v2, rfl, hd2, hb2⟩
  have hp2 := hp1.below hb2
  have hbw2 := Below.next' hb1 hb2 hb1.size
  have hz1 := hb1.size
  have hgB := hd2.hB
  clear hb1 hb2
  go_wp2_with fail
  refine (rnew_any A0 n0 c0 l0 _ hp2 (by omega)).mono ?_
  rintro e w3 ⟨gm, v3, rfl, hm3, hb3⟩
  have hbw3 := Below.next' hbw2 hb3 hbw2.size
  have hz2 := hd2.size
  have hgm : w1.heap.size ≤ gm := Nat.le_trans hz2 hm3.hB
  have ht3 : Mid w3 w1.heap.size g gm v2 v3 l0 n0 false 0 l0 n0 (-1) := ⟨hd2.below hb3, hm3.mono hz2, fun k h1 h2 => by
    have := hd2.lt k h1
    have := hm3.ge k h2
    omega⟩
  have hl3 : l0.length ≤ 60 := by rw [hp.1]; exact h0
  clear hd2 hm3 hb3 hbw2 hp1 hp2
  go_wp2_with fail
  go_loopw [7, 8, 9] (fun i _ _ w' => ∃ (k : Nat) (v vm : Value) (q : List UInt8) (s : Nat) (f : Bool) (cd cm : Int), k ≤ n ∧ i = .int .i64 k ∧ Mid w' w1.heap.size g gm v vm q s f cd q s cm ∧ Rl f cd cm ∧ q.length ≤ 60 + 40 * k ∧ Below w.heap.size w w') (fun i _ _ _ => n - (intOf i).toNat)
  case atStart => exact ⟨0, v2, v3, l0, n0, false, 0, -1, by omega, rfl, ht3, .inl ⟨rfl, rfl⟩, by omega, hbw3⟩
  case round =>
    clear ht3 hbw3 hl3
    obtain ⟨k, v, vm, q, s, f, cd, cm, hk, rfl, htw, hrl, hq, hbw⟩ := hrel
    by_cases hlt : k < n
    · obtain ⟨x, hx⟩ : ∃ x, L[k]'(by rw [ha.len]; exact hlt) = x := ⟨_, rfl⟩
      obtain ⟨gA, oA, B, m, cB, rfl, q0, q1, q2, hsB0, hmc, hcm, hxd, hx1, hx2⟩ := ha.at_ hlt x hx
      clear hx
      obtain ⟨xd, xn, xp⟩ := x
      simp only at q0 q1 hsB0 hxd hx1 hx2
      have q0 := cell_below hbw q0
      have q1 := cell_below hbw q1
      have q2 := cell_below hbw q2
      have hsB := hsB0.below hbw
      by_cases hm : m ≤ 40
      · have dm : decide ((40 : Int) < (m : Int)) = false := decide_eq_false (by omega)
        obtain ⟨r, hr⟩ : ∃ r, xd % 7 = r := ⟨_, rfl⟩
        have hm1 : (xd : Int) % 7 = (r : Int) := by omega
        have hm2 : Int.tmod (xd : Int) 7 = (r : Int) := by rw [Int.tmod_eq_emod_of_nonneg (by omega)]; omega
        have hc : r = 0 ∨ r = 1 ∨ r = 2 ∨ r = 3 ∨ r = 4 ∨ r = 5 ∨ r = 6 := by omega
        obtain ⟨y50, hy50⟩ : ∃ y, Int.tmod xn 50 = y := ⟨_, rfl⟩
        obtain ⟨y5, hy5⟩ : ∃ y, Int.tmod xn 5 = y := ⟨_, rfl⟩
        obtain ⟨y30, hy30⟩ : ∃ y, Int.tmod xn 30 = y := ⟨_, rfl⟩
        have hy5b : y5 ≤ 1000 := by rw [← hy5]; have := Int.tmod_lt_of_pos xn (show (0 : Int) < 5 by omega); omega
        clear hr
        have hltd := htw.dk.lt
        have hltm := htw.mm.lt
        have hx0 : (wr.alloc (.cells #[.int .u8 (xd : Int), .int .i64 xn, .slice B m cB] 30)).cell? ⟨wr.heap.size, 0, none⟩ = some (.int .u8 (xd : Int)) := by simp
        have hx1' : (wr.alloc (.cells #[.int .u8 (xd : Int), .int .i64 xn, .slice B m cB] 30)).cell? ⟨wr.heap.size, 1, none⟩ = some (.int .i64 xn) := by simp
        have hx2' : (wr.alloc (.cells #[.int .u8 (xd : Int), .int .i64 xn, .slice B m cB] 30)).cell? ⟨wr.heap.size, 2, none⟩ = some (.slice B m cB) := by simp
        have ht4 := htw.alloc (.cells #[.int .u8 (xd : Int), .int .i64 xn, .slice B m cB] 30)
        have hsB4 := hsB.alloc (.cells #[.int .u8 (xd : Int), .int .i64 xn, .slice B m cB] 30)
        have hbw4 := hbw.alloc hbw.size (.cells #[.int .u8 (xd : Int), .int .i64 xn, .slice B m cB] 30)
        obtain ⟨b, hb⟩ : ∃ b, wr.heap.size = b := ⟨_, rfl⟩
        have HB := Lib.hid hb
        have hnd : ∀ (S : Nat → Prop), (∀ k, S k → k < b) → ¬ S b := fun S h hs => by have := h b hs; omega
        rw [hb] at hx0 hx1' hx2' hltd hltm
        obtain ⟨w4, hw4⟩ : ∃ w4, w4 = wr.alloc (.cells #[.int .u8 (xd : Int), .int .i64 xn, .slice B m cB] 30) := ⟨_, rfl⟩
        rw [← hw4] at hx0 hx1' hx2' ht4 hsB4 hbw4
        have hnb : ¬ DkS g v b := hnd _ hltd
        have hnm : ¬ DkS gm vm b := hnd _ hltm
        have hbk : wk f cd = wm cm := hrl.wk.symm
        obtain ⟨bk, hbk2⟩ : ∃ bk, wm cm = bk := ⟨_, rfl⟩
        rw [hbk2] at hbk
        have hrl2 := hrl.dn (fun e => (ht4.dk.hc e).1)
        have hap : 0 < m → ∀ a, B = some a → a.block ≠ g := fun h a e => by have := hsB0.lt h a e; omega
        have hapm : 0 < m → ∀ a, B = some a → a.block ≠ gm := fun h a e => by have := hsB0.lt h a e; omega
        clear htw hbw hsB hnd hltd hltm hb
        rcases hc with rfl | rfl | rfl | rfl | rfl | rfl | rfl
        · go_wp2
          rw [HB.out, ← hw4]
          clear q0 q1 q2 hw4 HB
          refine wp_region_noPanic (wp_region_till (fun W' => W'.cell? ⟨b, 1, none⟩ = some (.int .i64 xn) ∧ W'.cell? ⟨b, 2, none⟩ = some (.slice B m cB)) 9 (by kernel_rfl) ?_)
          have ht5 := ht4.drewN 1
          have hsB5 := hsB4.drewN 1
          have hbw5 := Below.drewN' hbw4 1
          have hx15 : (w4.drewN 1).cell? ⟨b, 1, none⟩ = some (.int .i64 xn) := hx1'
          have hx25 : (w4.drewN 1).cell? ⟨b, 2, none⟩ = some (.slice B m cB) := hx2'
          change wpAnyT _ _ _ _ _ _ 10 _ _ (w4.drewN 1)
          clear ht4 hsB4 hbw4 hx0 hx1' hx2'
          generalize w4.drewN 1 = w5 at *
          refine wpAnyT_take (i := 0) (v := .pointer (some ⟨g, 0, none⟩)) rfl (by kernel_rfl) (fun _ _ _ h => h) ⟨hx15, hx25⟩ (Or.inl ⟨rfl, fun W' hW => by obtain ⟨q0, q1⟩ := hW; go_simp⟩) ?_
          refine wpAnyT_take (i := 1) (v := .pointer (some ⟨b, 2, none⟩)) rfl (by kernel_rfl) (fun _ _ _ h => h) ⟨hx15, hx25⟩ (Or.inl ⟨rfl, fun W' hW => by obtain ⟨q0, q1⟩ := hW; go_simp⟩) ?_
          refine wpAnyT_take (i := 2) (v := .slice B m cB) rfl (by kernel_rfl) (fun _ _ _ h => h) ⟨hx15, hx25⟩ (Or.inl ⟨rfl, fun W' hW => by obtain ⟨q0, q1⟩ := hW; go_simp⟩) ?_
          refine wpAnyT_take (i := 4) (v := .pointer (some ⟨gm, 0, none⟩)) rfl (by kernel_rfl) (fun _ _ _ h => h) ⟨hx15, hx25⟩ (Or.inl ⟨rfl, fun W' hW => by obtain ⟨q0, q1⟩ := hW; go_simp⟩) ?_
          refine wpAnyT_take (i := 5) (v := .pointer (some ⟨b, 2, none⟩)) rfl (by kernel_rfl) (fun _ _ _ h => h) ⟨hx15, hx25⟩ (Or.inl ⟨rfl, fun W' hW => by obtain ⟨q0, q1⟩ := hW; go_simp⟩) ?_
          refine wpAnyT_take (i := 6) (v := .slice B m cB) rfl (by kernel_rfl) (fun _ _ _ h => h) ⟨hx15, hx25⟩ (Or.inl ⟨rfl, fun W' hW => by obtain ⟨q0, q1⟩ := hW; go_simp⟩) ?_
          refine wpAnyT_step 3 rfl (by kernel_rfl) ?_
          go_wp2_with fail
          refine (append_un ht5.dk bk hbk B m cB xp hsB5 hap (by omega)).mono ?_
          rintro e w6 ⟨rfl, v6, hd6, ho6, hm6⟩
          have hx16 := ho6.cell hx15 hnb
          have hx26 := ho6.cell hx25 hnb
          have hsB6 := hsB5.only ho6 (fun h a e hk => absurd hk (by
            have := hsB0.lt h a e
            intro hk
            have := ht5.dk.ge _ hk
            omega))
          have hbw6 := ht5.belowd hbw5 hz1 ho6
          have ht6 := ht5.d hd6 ho6 hm6
          clear ht5 hsB5 hbw5 hx15 hx25 hd6 ho6 hm6
          go_wp2_with fail
          refine ⟨.inr ⟨hx16, hx26⟩, ?_⟩
          refine wpAnyT_step 7 rfl (by kernel_rfl) ?_
          go_wp2_with fail
          refine (rappend_un ht6.mm bk hbk2 B m cB xp hsB6 hapm (by omega)).mono ?_
          rintro e w7 ⟨rfl, v7, hd7, ho7, hm7⟩
          have hx17 := ho7.cell hx16 hnm
          have hx27 := ho7.cell hx26 hnm
          have hbw8 := ht6.belowm hbw6 hz1 ho7
          have ht7 := ht6.m hd7 ho7 hm7
          clear ht6 hsB6 hbw6 hx16 hx26 hd7 ho7 hm7
          go_wp2_with fail
          refine ⟨.inr ⟨hx17, hx27⟩, ?_⟩
          refine wpAnyT_step 8 rfl (by kernel_rfl) ?_
          go_wp2_with fail
          refine ⟨.inr ⟨hx17, hx27⟩, ?_⟩
          refine wpAnyT_step 9 rfl (by kernel_rfl) ?_
          go_wp2_with fail
          refine ⟨.inl trivial, ?_⟩
          refine wpAnyT_done (by kernel_rfl) (NoPanic.normal ?_)
          have T8 : ∃ (v8 vm8 : Value) (q8 : List UInt8) (s8 : Nat) (f8 : Bool) (c8 cm8 : Int), Mid w7 w1.heap.size g gm v8 vm8 q8 s8 f8 c8 q8 s8 cm8 ∧ Rl f8 c8 cm8 ∧ q8.length ≤ 60 + 40 * k + 40 := ⟨_, _, _, _, _, _, _, ht7, hrl2, by have := hsB0.1; split <;> (first | (rw [List.length_append]; omega) | omega)⟩
          obtain ⟨v8, vm8, q8, s8, f8, c8, cm8, ht8, hrl8, hl8⟩ := T8
          clear ht7 hrl2 hrl hbk hbk2 hnb hnm hap hapm hy50 hy5 hy30 hy5b
          obtain ⟨A8, cc8, hv8, hsg8, hlc8, hcm8⟩ := ht8.mm.own.forms
          subst hv8
          have z0 := ht8.mm.mc.h0
          have z1 := ht8.mm.mc.h1
          obtain ⟨n8, hn8⟩ : ∃ n8, q8.length = n8 := ⟨_, rfl⟩
          have HN8 := Lib.hid hn8
          have h9 := ht8.dk.hs
          rw [hn8] at z0 hsg8 hlc8 hl8 h9
          have hn9 : n8 ≤ 1000000 := by omega
          clear hn8
          go_wp2
          refine wp_region_noPanic (wp_region_tills (fun W' => W'.cell? ⟨gm, 0, none⟩ = some (.slice A8 n8 cc8) ∧ W'.cell? ⟨gm, 1, none⟩ = some (.int .i64 (s8 : Int))) (fun j => decide (20 ≤ j)) (by kernel_rfl) ?_)
          have ht9 := ht8.drewN 1
          have hsg9 := hsg8.drewN 1
          have hbw9 := Below.drewN' hbw8 1
          have y0 : (w7.drewN 1).cell? ⟨gm, 0, none⟩ = some (.slice A8 n8 cc8) := z0
          have y1 : (w7.drewN 1).cell? ⟨gm, 1, none⟩ = some (.int .i64 (s8 : Int)) := z1
          change wpAnyS _ _ _ _ _ _ 21 _ _ (w7.drewN 1)
          clear ht8 hsg8 hbw8 z0 z1
          generalize w7.drewN 1 = w9 at *
          refine wpAnyS_take (i := 0) (v := .bool true) rfl (by kernel_rfl) (fun _ _ _ h => h) ⟨y0, y1⟩ (Or.inl ⟨by kernel_rfl, fun W' hW => by obtain ⟨q0, q1⟩ := hW; go_simp⟩) ?_
          refine wpAnyS_take (i := 1) (v := .bool false) rfl (by kernel_rfl) (fun _ _ _ h => h) ⟨y0, y1⟩ (Or.inl ⟨by kernel_rfl, fun W' hW => by obtain ⟨q0, q1⟩ := hW; go_simp⟩) ?_
          refine wpAnyS_take (i := 2) (v := .bool false) rfl (by kernel_rfl) (fun _ _ _ h => h) ⟨y0, y1⟩ (Or.inl ⟨by kernel_rfl, fun W' hW => by obtain ⟨q0, q1⟩ := hW; go_simp⟩) ?_
          refine wpAnyS_take (i := 3) (v := .pointer (some ⟨g, 0, none⟩)) rfl (by kernel_rfl) (fun _ _ _ h => h) ⟨y0, y1⟩ (Or.inl ⟨by kernel_rfl, fun W' hW => by obtain ⟨q0, q1⟩ := hW; go_simp⟩) ?_
          refine wpAnyS_take (i := 5) (v := .pointer (some ⟨gm, 0, none⟩)) rfl (by kernel_rfl) (fun _ _ _ h => h) ⟨y0, y1⟩ (Or.inl ⟨by kernel_rfl, fun W' hW => by obtain ⟨q0, q1⟩ := hW; go_simp⟩) ?_
          refine wpAnyS_take (i := 6) (v := .pointer (some ⟨gm, 0, none⟩)) rfl (by kernel_rfl) (fun _ _ _ h => h) ⟨y0, y1⟩ (Or.inl ⟨by kernel_rfl, fun W' hW => by obtain ⟨q0, q1⟩ := hW; go_simp⟩) ?_
          refine wpAnyS_take (i := 7) (v := .pointer (some ⟨gm, 1, none⟩)) rfl (by kernel_rfl) (fun _ _ _ h => h) ⟨y0, y1⟩ (Or.inl ⟨by kernel_rfl, fun W' hW => by obtain ⟨q0, q1⟩ := hW; go_simp⟩) ?_
          refine wpAnyS_take (i := 8) (v := .int .i64 (s8 : Int)) rfl (by kernel_rfl) (fun _ _ _ h => h) ⟨y0, y1⟩ (Or.inl ⟨by kernel_rfl, fun W' hW => by obtain ⟨q0, q1⟩ := hW; go_simp⟩) ?_
          refine wpAnyS_stepg 4 rfl (by decide +kernel) (by kernel_rfl) ?_
          go_wp2_with fail
          refine (safe_any ht9.dk.dc).mono ?_
          rintro e w10 ⟨rfl, rfl⟩
          go_wp2_with fail
          refine ⟨.inr ⟨y0, y1⟩, ?_⟩
          refine wpAnyS_take (i := 9) (v := .bool false) rfl (by kernel_rfl) (fun _ _ _ h => h) ⟨y0, y1⟩ (Or.inl ⟨by kernel_rfl, fun W' hW => by obtain ⟨q0, q1⟩ := hW; go_simp⟩) ?_
          refine wpAnyS_take (i := 10) (v := .bool false) rfl (by kernel_rfl) (fun _ _ _ h => h) ⟨y0, y1⟩ (Or.inl ⟨by kernel_rfl, fun W' hW => by obtain ⟨q0, q1⟩ := hW; go_simp⟩) ?_
          refine wpAnyS_take (i := 11) (v := .bool false) rfl (by kernel_rfl) (fun _ _ _ h => h) ⟨y0, y1⟩ (Or.inl ⟨by kernel_rfl, fun W' hW => by obtain ⟨q0, q1⟩ := hW; go_simp⟩) ?_
          refine wpAnyS_take (i := 12) (v := .pointer (some ⟨g, 0, none⟩)) rfl (by kernel_rfl) (fun _ _ _ h => h) ⟨y0, y1⟩ (Or.inl ⟨by kernel_rfl, fun W' hW => by obtain ⟨q0, q1⟩ := hW; go_simp⟩) ?_
          refine wpAnyS_take (i := 14) (v := .pointer (some ⟨gm, 0, none⟩)) rfl (by kernel_rfl) (fun _ _ _ h => h) ⟨y0, y1⟩ (Or.inl ⟨by kernel_rfl, fun W' hW => by obtain ⟨q0, q1⟩ := hW; go_simp⟩) ?_
          refine wpAnyS_take (i := 15) (v := .pointer (some ⟨gm, 0, none⟩)) rfl (by kernel_rfl) (fun _ _ _ h => h) ⟨y0, y1⟩ (Or.inl ⟨by kernel_rfl, fun W' hW => by obtain ⟨q0, q1⟩ := hW; go_simp⟩) ?_
          refine wpAnyS_take (i := 16) (v := .pointer (some ⟨gm, 0, none⟩)) rfl (by kernel_rfl) (fun _ _ _ h => h) ⟨y0, y1⟩ (Or.inl ⟨by kernel_rfl, fun W' hW => by obtain ⟨q0, q1⟩ := hW; go_simp⟩) ?_
          refine wpAnyS_take (i := 17) (v := .slice A8 n8 cc8) rfl (by kernel_rfl) (fun _ _ _ h => h) ⟨y0, y1⟩ (Or.inl ⟨by kernel_rfl, fun W' hW => by obtain ⟨q0, q1⟩ := hW; go_simp⟩) ?_
          refine wpAnyS_stepg 13 rfl (by decide +kernel) (by kernel_rfl) ?_
          go_wp2_with fail
          refine (dread_any ht9.dk (by rw [HN8.out]; exact hn9)).mono ?_
          rintro e w11 ⟨v11, rfl, ho11, hb11⟩
          obtain ⟨A11, c11, rfl, hs11, _, _⟩ := ho11.forms
          rw [HN8.out] at hs11 ⊢
          have hta := ht9.below hb11
          have hsga := hsg9.below hb11
          have hbwa := Below.next' hbw9 hb11 hbw9.size
          have y0a := cell_below hb11 y0
          have y1a := cell_below hb11 y1
          clear ht9 hsg9 hbw9 y0 y1 hb11 ho11
          go_wp2_with fail
          refine ⟨.inr ⟨y0a, y1a⟩, ?_⟩
          refine wpAnyS_stepg 18 rfl (by decide +kernel) (by kernel_rfl) ?_
          go_wp2_with fail
          refine (bytes_any A11 A8 n8 n8 c11 cc8 q8 q8 _ hs11 hsga (by simp only [maxLen]; omega)).mono ?_
          rintro e w12 ⟨rfl, u, rfl⟩
          rw [show (q8 == q8) = true by simp]
          have htb := hta.drewN u
          have hbwb := Below.drewN' hbwa u
          have y0b : (w11.drewN u).cell? ⟨gm, 0, none⟩ = some (.slice A8 n8 cc8) := y0a
          have y1b : (w11.drewN u).cell? ⟨gm, 1, none⟩ = some (.int .i64 (s8 : Int)) := y1a
          clear hta hsga hbwa hs11 y0a y1a
          generalize w11.drewN u = w12 at *
          go_wp2_with fail
          refine ⟨.inr ⟨y0b, y1b⟩, ?_⟩
          refine wpAnyS_stepg 19 rfl (by decide +kernel) (by kernel_rfl) ?_
          go_wp2_with fail
          refine ⟨.inr ⟨y0b, y1b⟩, ?_⟩
          refine wpAnyS_step 20 rfl (by decide +kernel) ?_
          go_wp2_with fail
          refine ⟨.inl rfl, ?_⟩
          refine wpAnyS_done (by decide +kernel) (NoPanic.normal ?_)
          go_wp2
          go_roundw
          case rel => exact ⟨k + 1, _, _, q8, s8, f8, c8, cm8, by omega, by go_num, htb, hrl8, by rw [HN8.out]; omega, hbwb⟩
          case measure => simp [intOf]; omega
        · go_wp2
          rw [HB.out, ← hw4]
          clear q0 q1 q2 hw4 HB
          refine wp_region_noPanic (wp_region_till (fun W' => W'.cell? ⟨b, 1, none⟩ = some (.int .i64 xn) ∧ W'.cell? ⟨b, 2, none⟩ = some (.slice B m cB)) 9 (by kernel_rfl) ?_)
          have ht5 := ht4.drewN 1
          have hsB5 := hsB4.drewN 1
          have hbw5 := Below.drewN' hbw4 1
          have hx15 : (w4.drewN 1).cell? ⟨b, 1, none⟩ = some (.int .i64 xn) := hx1'
          have hx25 : (w4.drewN 1).cell? ⟨b, 2, none⟩ = some (.slice B m cB) := hx2'
          change wpAnyT _ _ _ _ _ _ 10 _ _ (w4.drewN 1)
          clear ht4 hsB4 hbw4 hx0 hx1' hx2'
          generalize w4.drewN 1 = w5 at *
          refine wpAnyT_take (i := 0) (v := .pointer (some ⟨g, 0, none⟩)) rfl (by kernel_rfl) (fun _ _ _ h => h) ⟨hx15, hx25⟩ (Or.inl ⟨rfl, fun W' hW => by obtain ⟨q0, q1⟩ := hW; go_simp⟩) ?_
          refine wpAnyT_take (i := 1) (v := .pointer (some ⟨b, 2, none⟩)) rfl (by kernel_rfl) (fun _ _ _ h => h) ⟨hx15, hx25⟩ (Or.inl ⟨rfl, fun W' hW => by obtain ⟨q0, q1⟩ := hW; go_simp⟩) ?_
          refine wpAnyT_take (i := 2) (v := .slice B m cB) rfl (by kernel_rfl) (fun _ _ _ h => h) ⟨hx15, hx25⟩ (Or.inl ⟨rfl, fun W' hW => by obtain ⟨q0, q1⟩ := hW; go_simp⟩) ?_
          refine wpAnyT_take (i := 4) (v := .pointer (some ⟨gm, 0, none⟩)) rfl (by kernel_rfl) (fun _ _ _ h => h) ⟨hx15, hx25⟩ (Or.inl ⟨rfl, fun W' hW => by obtain ⟨q0, q1⟩ := hW; go_simp⟩) ?_
          refine wpAnyT_take (i := 5) (v := .pointer (some ⟨b, 2, none⟩)) rfl (by kernel_rfl) (fun _ _ _ h => h) ⟨hx15, hx25⟩ (Or.inl ⟨rfl, fun W' hW => by obtain ⟨q0, q1⟩ := hW; go_simp⟩) ?_
          refine wpAnyT_take (i := 6) (v := .slice B m cB) rfl (by kernel_rfl) (fun _ _ _ h => h) ⟨hx15, hx25⟩ (Or.inl ⟨rfl, fun W' hW => by obtain ⟨q0, q1⟩ := hW; go_simp⟩) ?_
          refine wpAnyT_step 3 rfl (by kernel_rfl) ?_
          go_wp2_with fail
          refine (append_un ht5.dk bk hbk B m cB xp hsB5 hap (by omega)).mono ?_
          rintro e w6 ⟨rfl, v6, hd6, ho6, hm6⟩
          have hx16 := ho6.cell hx15 hnb
          have hx26 := ho6.cell hx25 hnb
          have hsB6 := hsB5.only ho6 (fun h a e hk => absurd hk (by
            have := hsB0.lt h a e
            intro hk
            have := ht5.dk.ge _ hk
            omega))
          have hbw6 := ht5.belowd hbw5 hz1 ho6
          have ht6 := ht5.d hd6 ho6 hm6
          clear ht5 hsB5 hbw5 hx15 hx25 hd6 ho6 hm6
          go_wp2_with fail
          refine ⟨.inr ⟨hx16, hx26⟩, ?_⟩
          refine wpAnyT_step 7 rfl (by kernel_rfl) ?_
          go_wp2_with fail
          refine (rappend_un ht6.mm bk hbk2 B m cB xp hsB6 hapm (by omega)).mono ?_
          rintro e w7 ⟨rfl, v7, hd7, ho7, hm7⟩
          have hx17 := ho7.cell hx16 hnm
          have hx27 := ho7.cell hx26 hnm
          have hbw8 := ht6.belowm hbw6 hz1 ho7
          have ht7 := ht6.m hd7 ho7 hm7
          clear ht6 hsB6 hbw6 hx16 hx26 hd7 ho7 hm7
          go_wp2_with fail
          refine ⟨.inr ⟨hx17, hx27⟩, ?_⟩
          refine wpAnyT_step 8 rfl (by kernel_rfl) ?_
          go_wp2_with fail
          refine ⟨.inr ⟨hx17, hx27⟩, ?_⟩
          refine wpAnyT_step 9 rfl (by kernel_rfl) ?_
          go_wp2_with fail
          refine ⟨.inl trivial, ?_⟩
          refine wpAnyT_done (by kernel_rfl) (NoPanic.normal ?_)
          have T8 : ∃ (v8 vm8 : Value) (q8 : List UInt8) (s8 : Nat) (f8 : Bool) (c8 cm8 : Int), Mid w7 w1.heap.size g gm v8 vm8 q8 s8 f8 c8 q8 s8 cm8 ∧ Rl f8 c8 cm8 ∧ q8.length ≤ 60 + 40 * k + 40 := ⟨_, _, _, _, _, _, _, ht7, hrl2, by have := hsB0.1; split <;> (first | (rw [List.length_append]; omega) | omega)⟩
          obtain ⟨v8, vm8, q8, s8, f8, c8, cm8, ht8, hrl8, hl8⟩ := T8
          clear ht7 hrl2 hrl hbk hbk2 hnb hnm hap hapm hy50 hy5 hy30 hy5b
          obtain ⟨A8, cc8, hv8, hsg8, hlc8, hcm8⟩ := ht8.mm.own.forms
          subst hv8
          have z0 := ht8.mm.mc.h0
          have z1 := ht8.mm.mc.h1
          obtain ⟨n8, hn8⟩ : ∃ n8, q8.length = n8 := ⟨_, rfl⟩
          have HN8 := Lib.hid hn8
          have h9 := ht8.dk.hs
          rw [hn8] at z0 hsg8 hlc8 hl8 h9
          have hn9 : n8 ≤ 1000000 := by omega
          clear hn8
          go_wp2
          refine wp_region_noPanic (wp_region_tills (fun W' => W'.cell? ⟨gm, 0, none⟩ = some (.slice A8 n8 cc8) ∧ W'.cell? ⟨gm, 1, none⟩ = some (.int .i64 (s8 : Int))) (fun j => decide (20 ≤ j)) (by kernel_rfl) ?_)
          have ht9 := ht8.drewN 1
          have hsg9 := hsg8.drewN 1
          have hbw9 := Below.drewN' hbw8 1
          have y0 : (w7.drewN 1).cell? ⟨gm, 0, none⟩ = some (.slice A8 n8 cc8) := z0
          have y1 : (w7.drewN 1).cell? ⟨gm, 1, none⟩ = some (.int .i64 (s8 : Int)) := z1
          change wpAnyS _ _ _ _ _ _ 21 _ _ (w7.drewN 1)
          clear ht8 hsg8 hbw8 z0 z1
          generalize w7.drewN 1 = w9 at *
          refine wpAnyS_take (i := 0) (v := .bool true) rfl (by kernel_rfl) (fun _ _ _ h => h) ⟨y0, y1⟩ (Or.inl ⟨by kernel_rfl, fun W' hW => by obtain ⟨q0, q1⟩ := hW; go_simp⟩) ?_
          refine wpAnyS_take (i := 1) (v := .bool false) rfl (by kernel_rfl) (fun _ _ _ h => h) ⟨y0, y1⟩ (Or.inl ⟨by kernel_rfl, fun W' hW => by obtain ⟨q0, q1⟩ := hW; go_simp⟩) ?_
          refine wpAnyS_take (i := 2) (v := .bool false) rfl (by kernel_rfl) (fun _ _ _ h => h) ⟨y0, y1⟩ (Or.inl ⟨by kernel_rfl, fun W' hW => by obtain ⟨q0, q1⟩ := hW; go_simp⟩) ?_
          refine wpAnyS_take (i := 3) (v := .pointer (some ⟨g, 0, none⟩)) rfl (by kernel_rfl) (fun _ _ _ h => h) ⟨y0, y1⟩ (Or.inl ⟨by kernel_rfl, fun W' hW => by obtain ⟨q0, q1⟩ := hW; go_simp⟩) ?_
          refine wpAnyS_take (i := 5) (v := .pointer (some ⟨gm, 0, none⟩)) rfl (by kernel_rfl) (fun _ _ _ h => h) ⟨y0, y1⟩ (Or.inl ⟨by kernel_rfl, fun W' hW => by obtain ⟨q0, q1⟩ := hW; go_simp⟩) ?_
          refine wpAnyS_take (i := 6) (v := .pointer (some ⟨gm, 0, none⟩)) rfl (by kernel_rfl) (fun _ _ _ h => h) ⟨y0, y1⟩ (Or.inl ⟨by kernel_rfl, fun W' hW => by obtain ⟨q0, q1⟩ := hW; go_simp⟩) ?_
          refine wpAnyS_take (i := 7) (v := .pointer (some ⟨gm, 1, none⟩)) rfl (by kernel_rfl) (fun _ _ _ h => h) ⟨y0, y1⟩ (Or.inl ⟨by kernel_rfl, fun W' hW => by obtain ⟨q0, q1⟩ := hW; go_simp⟩) ?_
          refine wpAnyS_take (i := 8) (v := .int .i64 (s8 : Int)) rfl (by kernel_rfl) (fun _ _ _ h => h) ⟨y0, y1⟩ (Or.inl ⟨by kernel_rfl, fun W' hW => by obtain ⟨q0, q1⟩ := hW; go_simp⟩) ?_
          refine wpAnyS_stepg 4 rfl (by decide +kernel) (by kernel_rfl) ?_
          go_wp2_with fail
          refine (safe_any ht9.dk.dc).mono ?_
          rintro e w10 ⟨rfl, rfl⟩
          go_wp2_with fail
          refine ⟨.inr ⟨y0, y1⟩, ?_⟩
          refine wpAnyS_take (i := 9) (v := .bool false) rfl (by kernel_rfl) (fun _ _ _ h => h) ⟨y0, y1⟩ (Or.inl ⟨by kernel_rfl, fun W' hW => by obtain ⟨q0, q1⟩ := hW; go_simp⟩) ?_
          refine wpAnyS_take (i := 10) (v := .bool false) rfl (by kernel_rfl) (fun _ _ _ h => h) ⟨y0, y1⟩ (Or.inl ⟨by kernel_rfl, fun W' hW => by obtain ⟨q0, q1⟩ := hW; go_simp⟩) ?_
          refine wpAnyS_take (i := 11) (v := .bool false) rfl (by kernel_rfl) (fun _ _ _ h => h) ⟨y0, y1⟩ (Or.inl ⟨by kernel_rfl, fun W' hW => by obtain ⟨q0, q1⟩ := hW; go_simp⟩) ?_
          refine wpAnyS_take (i := 12) (v := .pointer (some ⟨g, 0, none⟩)) rfl (by kernel_rfl) (fun _ _ _ h => h) ⟨y0, y1⟩ (Or.inl ⟨by kernel_rfl, fun W' hW => by obtain ⟨q0, q1⟩ := hW; go_simp⟩) ?_
          refine wpAnyS_take (i := 14) (v := .pointer (some ⟨gm, 0, none⟩)) rfl (by kernel_rfl) (fun _ _ _ h => h) ⟨y0, y1⟩ (Or.inl ⟨by kernel_rfl, fun W' hW => by obtain ⟨q0, q1⟩ := hW; go_simp⟩) ?_
          refine wpAnyS_take (i := 15) (v := .pointer (some ⟨gm, 0, none⟩)) rfl (by kernel_rfl) (fun _ _ _ h => h) ⟨y0, y1⟩ (Or.inl ⟨by kernel_rfl, fun W' hW => by obtain ⟨q0, q1⟩ := hW; go_simp⟩) ?_
          refine wpAnyS_take (i := 16) (v := .pointer (some ⟨gm, 0, none⟩)) rfl (by kernel_rfl) (fun _ _ _ h => h) ⟨y0, y1⟩ (Or.inl ⟨by kernel_rfl, fun W' hW => by obtain ⟨q0, q1⟩ := hW; go_simp⟩) ?_
          refine wpAnyS_take (i := 17) (v := .slice A8 n8 cc8) rfl (by kernel_rfl) (fun _ _ _ h => h) ⟨y0, y1⟩ (Or.inl ⟨by kernel_rfl, fun W' hW => by obtain ⟨q0, q1⟩ := hW; go_simp⟩) ?_
          refine wpAnyS_stepg 13 rfl (by decide +kernel) (by kernel_rfl) ?_
          go_wp2_with fail
          refine (dread_any ht9.dk (by rw [HN8.out]; exact hn9)).mono ?_
          rintro e w11 ⟨v11, rfl, ho11, hb11⟩
          obtain ⟨A11, c11, rfl, hs11, _, _⟩ := ho11.forms
          rw [HN8.out] at hs11 ⊢
          have hta := ht9.below hb11
          have hsga := hsg9.below hb11
          have hbwa := Below.next' hbw9 hb11 hbw9.size
          have y0a := cell_below hb11 y0
          have y1a := cell_below hb11 y1
          clear ht9 hsg9 hbw9 y0 y1 hb11 ho11
          go_wp2_with fail
          refine ⟨.inr ⟨y0a, y1a⟩, ?_⟩
          refine wpAnyS_stepg 18 rfl (by decide +kernel) (by kernel_rfl) ?_
          go_wp2_with fail
          refine (bytes_any A11 A8 n8 n8 c11 cc8 q8 q8 _ hs11 hsga (by simp only [maxLen]; omega)).mono ?_
          rintro e w12 ⟨rfl, u, rfl⟩
          rw [show (q8 == q8) = true by simp]
          have htb := hta.drewN u
          have hbwb := Below.drewN' hbwa u
          have y0b : (w11.drewN u).cell? ⟨gm, 0, none⟩ = some (.slice A8 n8 cc8) := y0a
          have y1b : (w11.drewN u).cell? ⟨gm, 1, none⟩ = some (.int .i64 (s8 : Int)) := y1a
          clear hta hsga hbwa hs11 y0a y1a
          generalize w11.drewN u = w12 at *
          go_wp2_with fail
          refine ⟨.inr ⟨y0b, y1b⟩, ?_⟩
          refine wpAnyS_stepg 19 rfl (by decide +kernel) (by kernel_rfl) ?_
          go_wp2_with fail
          refine ⟨.inr ⟨y0b, y1b⟩, ?_⟩
          refine wpAnyS_step 20 rfl (by decide +kernel) ?_
          go_wp2_with fail
          refine ⟨.inl rfl, ?_⟩
          refine wpAnyS_done (by decide +kernel) (NoPanic.normal ?_)
          go_wp2
          go_roundw
          case rel => exact ⟨k + 1, _, _, q8, s8, f8, c8, cm8, by omega, by go_num, htb, hrl8, by rw [HN8.out]; omega, hbwb⟩
          case measure => simp [intOf]; omega
        · go_wp2_with fail
          rw [HB.out, ← hw4]
          clear q0 q1 q2 hw4 HB
          refine (sync_un ht4.dk bk hbk).mono ?_
          rintro e w6 ⟨rfl, v6, hd6, ho6', hm6⟩
          have ho6 : Only w4 w6 (DkS g v) := ho6'
          have hx16 := ho6.cell hx1' hnb
          have hbw6 := ht4.belowd hbw4 hz1 ho6
          have ht6 := ht4.d hd6 ho6 hm6
          clear ht4 hsB4 hbw4 hx0 hx1' hx2' hd6 ho6 ho6'
          go_wp2_with fail
          refine (rsync_un ht6.mm bk hbk2).mono ?_
          rintro e w7 ⟨rfl, v7, hd7, ho7', hm7⟩
          have ho7 : Only w6 w7 (DkS gm vm) := ho7'
          have hbw8 := ht6.belowm hbw6 hz1 ho7
          have ht7 := ht6.m hd7 ho7 hm7
          clear ht6 hbw6 hx16 hd7 ho7 ho7'
          have T8 : ∃ (v8 vm8 : Value) (q8 : List UInt8) (s8 : Nat) (f8 : Bool) (c8 cm8 : Int), Mid w7 w1.heap.size g gm v8 vm8 q8 s8 f8 c8 q8 s8 cm8 ∧ Rl f8 c8 cm8 ∧ q8.length ≤ 60 + 40 * k + 40 := ⟨_, _, _, _, _, _, _, ht7, hrl2, by omega⟩
          obtain ⟨v8, vm8, q8, s8, f8, c8, cm8, ht8, hrl8, hl8⟩ := T8
          clear ht7 hrl2 hrl hbk hbk2 hnb hnm hap hapm hy50 hy5 hy30 hy5b
          obtain ⟨A8, cc8, hv8, hsg8, hlc8, hcm8⟩ := ht8.mm.own.forms
          subst hv8
          have z0 := ht8.mm.mc.h0
          have z1 := ht8.mm.mc.h1
          obtain ⟨n8, hn8⟩ : ∃ n8, q8.length = n8 := ⟨_, rfl⟩
          have HN8 := Lib.hid hn8
          have h9 := ht8.dk.hs
          rw [hn8] at z0 hsg8 hlc8 hl8 h9
          have hn9 : n8 ≤ 1000000 := by omega
          clear hn8
          go_wp2
          refine wp_region_noPanic (wp_region_tills (fun W' => W'.cell? ⟨gm, 0, none⟩ = some (.slice A8 n8 cc8) ∧ W'.cell? ⟨gm, 1, none⟩ = some (.int .i64 (s8 : Int))) (fun j => decide (20 ≤ j)) (by kernel_rfl) ?_)
          have ht9 := ht8.drewN 1
          have hsg9 := hsg8.drewN 1
          have hbw9 := Below.drewN' hbw8 1
          have y0 : (w7.drewN 1).cell? ⟨gm, 0, none⟩ = some (.slice A8 n8 cc8) := z0
          have y1 : (w7.drewN 1).cell? ⟨gm, 1, none⟩ = some (.int .i64 (s8 : Int)) := z1
          change wpAnyS _ _ _ _ _ _ 21 _ _ (w7.drewN 1)
          clear ht8 hsg8 hbw8 z0 z1
          generalize w7.drewN 1 = w9 at *
          refine wpAnyS_take (i := 0) (v := .bool true) rfl (by kernel_rfl) (fun _ _ _ h => h) ⟨y0, y1⟩ (Or.inl ⟨by kernel_rfl, fun W' hW => by obtain ⟨q0, q1⟩ := hW; go_simp⟩) ?_
          refine wpAnyS_take (i := 1) (v := .bool false) rfl (by kernel_rfl) (fun _ _ _ h => h) ⟨y0, y1⟩ (Or.inl ⟨by kernel_rfl, fun W' hW => by obtain ⟨q0, q1⟩ := hW; go_simp⟩) ?_
          refine wpAnyS_take (i := 2) (v := .bool false) rfl (by kernel_rfl) (fun _ _ _ h => h) ⟨y0, y1⟩ (Or.inl ⟨by kernel_rfl, fun W' hW => by obtain ⟨q0, q1⟩ := hW; go_simp⟩) ?_
          refine wpAnyS_take (i := 3) (v := .pointer (some ⟨g, 0, none⟩)) rfl (by kernel_rfl) (fun _ _ _ h => h) ⟨y0, y1⟩ (Or.inl ⟨by kernel_rfl, fun W' hW => by obtain ⟨q0, q1⟩ := hW; go_simp⟩) ?_
          refine wpAnyS_take (i := 5) (v := .pointer (some ⟨gm, 0, none⟩)) rfl (by kernel_rfl) (fun _ _ _ h => h) ⟨y0, y1⟩ (Or.inl ⟨by kernel_rfl, fun W' hW => by obtain ⟨q0, q1⟩ := hW; go_simp⟩) ?_
          refine wpAnyS_take (i := 6) (v := .pointer (some ⟨gm, 0, none⟩)) rfl (by kernel_rfl) (fun _ _ _ h => h) ⟨y0, y1⟩ (Or.inl ⟨by kernel_rfl, fun W' hW => by obtain ⟨q0, q1⟩ := hW; go_simp⟩) ?_
          refine wpAnyS_take (i := 7) (v := .pointer (some ⟨gm, 1, none⟩)) rfl (by kernel_rfl) (fun _ _ _ h => h) ⟨y0, y1⟩ (Or.inl ⟨by kernel_rfl, fun W' hW => by obtain ⟨q0, q1⟩ := hW; go_simp⟩) ?_
          refine wpAnyS_take (i := 8) (v := .int .i64 (s8 : Int)) rfl (by kernel_rfl) (fun _ _ _ h => h) ⟨y0, y1⟩ (Or.inl ⟨by kernel_rfl, fun W' hW => by obtain ⟨q0, q1⟩ := hW; go_simp⟩) ?_
          refine wpAnyS_stepg 4 rfl (by decide +kernel) (by kernel_rfl) ?_
          go_wp2_with fail
          refine (safe_any ht9.dk.dc).mono ?_
          rintro e w10 ⟨rfl, rfl⟩
          go_wp2_with fail
          refine ⟨.inr ⟨y0, y1⟩, ?_⟩
          refine wpAnyS_take (i := 9) (v := .bool false) rfl (by kernel_rfl) (fun _ _ _ h => h) ⟨y0, y1⟩ (Or.inl ⟨by kernel_rfl, fun W' hW => by obtain ⟨q0, q1⟩ := hW; go_simp⟩) ?_
          refine wpAnyS_take (i := 10) (v := .bool false) rfl (by kernel_rfl) (fun _ _ _ h => h) ⟨y0, y1⟩ (Or.inl ⟨by kernel_rfl, fun W' hW => by obtain ⟨q0, q1⟩ := hW; go_simp⟩) ?_
          refine wpAnyS_take (i := 11) (v := .bool false) rfl (by kernel_rfl) (fun _ _ _ h => h) ⟨y0, y1⟩ (Or.inl ⟨by kernel_rfl, fun W' hW => by obtain ⟨q0, q1⟩ := hW; go_simp⟩) ?_
          refine wpAnyS_take (i := 12) (v := .pointer (some ⟨g, 0, none⟩)) rfl (by kernel_rfl) (fun _ _ _ h => h) ⟨y0, y1⟩ (Or.inl ⟨by kernel_rfl, fun W' hW => by obtain ⟨q0, q1⟩ := hW; go_simp⟩) ?_
          refine wpAnyS_take (i := 14) (v := .pointer (some ⟨gm, 0, none⟩)) rfl (by kernel_rfl) (fun _ _ _ h => h) ⟨y0, y1⟩ (Or.inl ⟨by kernel_rfl, fun W' hW => by obtain ⟨q0, q1⟩ := hW; go_simp⟩) ?_
          refine wpAnyS_take (i := 15) (v := .pointer (some ⟨gm, 0, none⟩)) rfl (by kernel_rfl) (fun _ _ _ h => h) ⟨y0, y1⟩ (Or.inl ⟨by kernel_rfl, fun W' hW => by obtain ⟨q0, q1⟩ := hW; go_simp⟩) ?_
          refine wpAnyS_take (i := 16) (v := .pointer (some ⟨gm, 0, none⟩)) rfl (by kernel_rfl) (fun _ _ _ h => h) ⟨y0, y1⟩ (Or.inl ⟨by kernel_rfl, fun W' hW => by obtain ⟨q0, q1⟩ := hW; go_simp⟩) ?_
          refine wpAnyS_take (i := 17) (v := .slice A8 n8 cc8) rfl (by kernel_rfl) (fun _ _ _ h => h) ⟨y0, y1⟩ (Or.inl ⟨by kernel_rfl, fun W' hW => by obtain ⟨q0, q1⟩ := hW; go_simp⟩) ?_
          refine wpAnyS_stepg 13 rfl (by decide +kernel) (by kernel_rfl) ?_
          go_wp2_with fail
          refine (dread_any ht9.dk (by rw [HN8.out]; exact hn9)).mono ?_
          rintro e w11 ⟨v11, rfl, ho11, hb11⟩
          obtain ⟨A11, c11, rfl, hs11, _, _⟩ := ho11.forms
          rw [HN8.out] at hs11 ⊢
          have hta := ht9.below hb11
          have hsga := hsg9.below hb11
          have hbwa := Below.next' hbw9 hb11 hbw9.size
          have y0a := cell_below hb11 y0
          have y1a := cell_below hb11 y1
          clear ht9 hsg9 hbw9 y0 y1 hb11 ho11
          go_wp2_with fail
          refine ⟨.inr ⟨y0a, y1a⟩, ?_⟩
          refine wpAnyS_stepg 18 rfl (by decide +kernel) (by kernel_rfl) ?_
          go_wp2_with fail
          refine (bytes_any A11 A8 n8 n8 c11 cc8 q8 q8 _ hs11 hsga (by simp only [maxLen]; omega)).mono ?_
          rintro e w12 ⟨rfl, u, rfl⟩
          rw [show (q8 == q8) = true by simp]
          have htb := hta.drewN u
          have hbwb := Below.drewN' hbwa u
          have y0b : (w11.drewN u).cell? ⟨gm, 0, none⟩ = some (.slice A8 n8 cc8) := y0a
          have y1b : (w11.drewN u).cell? ⟨gm, 1, none⟩ = some (.int .i64 (s8 : Int)) := y1a
          clear hta hsga hbwa hs11 y0a y1a
          generalize w11.drewN u = w12 at *
          go_wp2_with fail
          refine ⟨.inr ⟨y0b, y1b⟩, ?_⟩
          refine wpAnyS_stepg 19 rfl (by decide +kernel) (by kernel_rfl) ?_
          go_wp2_with fail
          refine ⟨.inr ⟨y0b, y1b⟩, ?_⟩
          refine wpAnyS_step 20 rfl (by decide +kernel) ?_
          go_wp2_with fail
          refine ⟨.inl rfl, ?_⟩
          refine wpAnyS_done (by decide +kernel) (NoPanic.normal ?_)
          go_wp2
          go_roundw
          case rel => exact ⟨k + 1, _, _, q8, s8, f8, c8, cm8, by omega, by go_num, htb, hrl8, by rw [HN8.out]; omega, hbwb⟩
          case measure => simp [intOf]; omega
        · go_wp2
          rw [HB.out, ← hw4]
          clear q0 q1 q2 hw4 HB
          refine wp_region_noPanic (wp_region_till (fun W' => W'.cell? ⟨b, 1, none⟩ = some (.int .i64 xn) ∧ W'.cell? ⟨b, 2, none⟩ = some (.slice B m cB)) 9 (by kernel_rfl) ?_)
          have ht5 := ht4.drewN 1
          have hsB5 := hsB4.drewN 1
          have hbw5 := Below.drewN' hbw4 1
          have hx15 : (w4.drewN 1).cell? ⟨b, 1, none⟩ = some (.int .i64 xn) := hx1'
          have hx25 : (w4.drewN 1).cell? ⟨b, 2, none⟩ = some (.slice B m cB) := hx2'
          change wpAnyT _ _ _ _ _ _ 10 _ _ (w4.drewN 1)
          clear ht4 hsB4 hbw4 hx0 hx1' hx2'
          generalize w4.drewN 1 = w5 at *
          refine wpAnyT_take (i := 0) (v := .pointer (some ⟨g, 0, none⟩)) rfl (by kernel_rfl) (fun _ _ _ h => h) ⟨hx15, hx25⟩ (Or.inl ⟨rfl, fun W' hW => by obtain ⟨q0, q1⟩ := hW; go_simp⟩) ?_
          refine wpAnyT_take (i := 1) (v := .pointer (some ⟨b, 1, none⟩)) rfl (by kernel_rfl) (fun _ _ _ h => h) ⟨hx15, hx25⟩ (Or.inl ⟨rfl, fun W' hW => by obtain ⟨q0, q1⟩ := hW; go_simp⟩) ?_
          refine wpAnyT_take (i := 2) (v := .int .i64 xn) rfl (by kernel_rfl) (fun _ _ _ h => h) ⟨hx15, hx25⟩ (Or.inl ⟨rfl, fun W' hW => by obtain ⟨q0, q1⟩ := hW; go_simp⟩) ?_
          refine wpAnyT_take (i := 4) (v := .pointer (some ⟨gm, 0, none⟩)) rfl (by kernel_rfl) (fun _ _ _ h => h) ⟨hx15, hx25⟩ (Or.inl ⟨rfl, fun W' hW => by obtain ⟨q0, q1⟩ := hW; go_simp⟩) ?_
          refine wpAnyT_take (i := 5) (v := .pointer (some ⟨b, 1, none⟩)) rfl (by kernel_rfl) (fun _ _ _ h => h) ⟨hx15, hx25⟩ (Or.inl ⟨rfl, fun W' hW => by obtain ⟨q0, q1⟩ := hW; go_simp⟩) ?_
          refine wpAnyT_take (i := 6) (v := .int .i64 xn) rfl (by kernel_rfl) (fun _ _ _ h => h) ⟨hx15, hx25⟩ (Or.inl ⟨rfl, fun W' hW => by obtain ⟨q0, q1⟩ := hW; go_simp⟩) ?_
          refine wpAnyT_step 3 rfl (by kernel_rfl) ?_
          go_wp2_with fail
          refine (cut_un ht5.dk bk hbk xn (by omega)).mono ?_
          rintro e w6 ⟨rfl, v6, hd6, ho6, hm6⟩
          have hx16 := ho6.cell hx15 hnb
          have hx26 := ho6.cell hx25 hnb
          have hsB6 := hsB5.only ho6 (fun h a e hk => absurd hk (by
            have := hsB0.lt h a e
            intro hk
            have := ht5.dk.ge _ hk
            omega))
          have hbw6 := ht5.belowd hbw5 hz1 ho6
          have ht6 := ht5.d hd6 ho6 hm6
          clear ht5 hsB5 hbw5 hx15 hx25 hd6 ho6 hm6
          go_wp2_with fail
          refine ⟨.inr ⟨hx16, hx26⟩, ?_⟩
          refine wpAnyT_step 7 rfl (by kernel_rfl) ?_
          go_wp2_with fail
          refine (rcut_un ht6.mm bk hbk2 xn (by omega)).mono ?_
          rintro e w7 ⟨rfl, v7, hd7, ho7, hm7⟩
          have hx17 := ho7.cell hx16 hnm
          have hx27 := ho7.cell hx26 hnm
          have hbw8 := ht6.belowm hbw6 hz1 ho7
          have ht7 := ht6.m hd7 ho7 hm7
          clear ht6 hsB6 hbw6 hx16 hx26 hd7 ho7 hm7
          go_wp2_with fail
          refine ⟨.inr ⟨hx17, hx27⟩, ?_⟩
          refine wpAnyT_step 8 rfl (by kernel_rfl) ?_
          go_wp2_with fail
          refine ⟨.inr ⟨hx17, hx27⟩, ?_⟩
          refine wpAnyT_step 9 rfl (by kernel_rfl) ?_
          go_wp2_with fail
          refine ⟨.inl trivial, ?_⟩
          refine wpAnyT_done (by kernel_rfl) (NoPanic.normal ?_)
          have T8 : ∃ (v8 vm8 : Value) (q8 : List UInt8) (s8 : Nat) (f8 : Bool) (c8 cm8 : Int), Mid w7 w1.heap.size g gm v8 vm8 q8 s8 f8 c8 q8 s8 cm8 ∧ Rl f8 c8 cm8 ∧ q8.length ≤ 60 + 40 * k + 40 := ⟨_, _, _, _, _, _, _, ht7, hrl2, by split <;> (first | (rw [List.length_take]; omega) | omega)⟩
          obtain ⟨v8, vm8, q8, s8, f8, c8, cm8, ht8, hrl8, hl8⟩ := T8
          clear ht7 hrl2 hrl hbk hbk2 hnb hnm hap hapm hy50 hy5 hy30 hy5b
          obtain ⟨A8, cc8, hv8, hsg8, hlc8, hcm8⟩ := ht8.mm.own.forms
          subst hv8
          have z0 := ht8.mm.mc.h0
          have z1 := ht8.mm.mc.h1
          obtain ⟨n8, hn8⟩ : ∃ n8, q8.length = n8 := ⟨_, rfl⟩
          have HN8 := Lib.hid hn8
          have h9 := ht8.dk.hs
          rw [hn8] at z0 hsg8 hlc8 hl8 h9
          have hn9 : n8 ≤ 1000000 := by omega
          clear hn8
          go_wp2
          refine wp_region_noPanic (wp_region_tills (fun W' => W'.cell? ⟨gm, 0, none⟩ = some (.slice A8 n8 cc8) ∧ W'.cell? ⟨gm, 1, none⟩ = some (.int .i64 (s8 : Int))) (fun j => decide (20 ≤ j)) (by kernel_rfl) ?_)
          have ht9 := ht8.drewN 1
          have hsg9 := hsg8.drewN 1
          have hbw9 := Below.drewN' hbw8 1
          have y0 : (w7.drewN 1).cell? ⟨gm, 0, none⟩ = some (.slice A8 n8 cc8) := z0
          have y1 : (w7.drewN 1).cell? ⟨gm, 1, none⟩ = some (.int .i64 (s8 : Int)) := z1
          change wpAnyS _ _ _ _ _ _ 21 _ _ (w7.drewN 1)
          clear ht8 hsg8 hbw8 z0 z1
          generalize w7.drewN 1 = w9 at *
          refine wpAnyS_take (i := 0) (v := .bool true) rfl (by kernel_rfl) (fun _ _ _ h => h) ⟨y0, y1⟩ (Or.inl ⟨by kernel_rfl, fun W' hW => by obtain ⟨q0, q1⟩ := hW; go_simp⟩) ?_
          refine wpAnyS_take (i := 1) (v := .bool false) rfl (by kernel_rfl) (fun _ _ _ h => h) ⟨y0, y1⟩ (Or.inl ⟨by kernel_rfl, fun W' hW => by obtain ⟨q0, q1⟩ := hW; go_simp⟩) ?_
          refine wpAnyS_take (i := 2) (v := .bool false) rfl (by kernel_rfl) (fun _ _ _ h => h) ⟨y0, y1⟩ (Or.inl ⟨by kernel_rfl, fun W' hW => by obtain ⟨q0, q1⟩ := hW; go_simp⟩) ?_
          refine wpAnyS_take (i := 3) (v := .pointer (some ⟨g, 0, none⟩)) rfl (by kernel_rfl) (fun _ _ _ h => h) ⟨y0, y1⟩ (Or.inl ⟨by kernel_rfl, fun W' hW => by obtain ⟨q0, q1⟩ := hW; go_simp⟩) ?_
          refine wpAnyS_take (i := 5) (v := .pointer (some ⟨gm, 0, none⟩)) rfl (by kernel_rfl) (fun _ _ _ h => h) ⟨y0, y1⟩ (Or.inl ⟨by kernel_rfl, fun W' hW => by obtain ⟨q0, q1⟩ := hW; go_simp⟩) ?_
          refine wpAnyS_take (i := 6) (v := .pointer (some ⟨gm, 0, none⟩)) rfl (by kernel_rfl) (fun _ _ _ h => h) ⟨y0, y1⟩ (Or.inl ⟨by kernel_rfl, fun W' hW => by obtain ⟨q0, q1⟩ := hW; go_simp⟩) ?_
          refine wpAnyS_take (i := 7) (v := .pointer (some ⟨gm, 1, none⟩)) rfl (by kernel_rfl) (fun _ _ _ h => h) ⟨y0, y1⟩ (Or.inl ⟨by kernel_rfl, fun W' hW => by obtain ⟨q0, q1⟩ := hW; go_simp⟩) ?_
          refine wpAnyS_take (i := 8) (v := .int .i64 (s8 : Int)) rfl (by kernel_rfl) (fun _ _ _ h => h) ⟨y0, y1⟩ (Or.inl ⟨by kernel_rfl, fun W' hW => by obtain ⟨q0, q1⟩ := hW; go_simp⟩) ?_
          refine wpAnyS_stepg 4 rfl (by decide +kernel) (by kernel_rfl) ?_
          go_wp2_with fail
          refine (safe_any ht9.dk.dc).mono ?_
          rintro e w10 ⟨rfl, rfl⟩
          go_wp2_with fail
          refine ⟨.inr ⟨y0, y1⟩, ?_⟩
          refine wpAnyS_take (i := 9) (v := .bool false) rfl (by kernel_rfl) (fun _ _ _ h => h) ⟨y0, y1⟩ (Or.inl ⟨by kernel_rfl, fun W' hW => by obtain ⟨q0, q1⟩ := hW; go_simp⟩) ?_
          refine wpAnyS_take (i := 10) (v := .bool false) rfl (by kernel_rfl) (fun _ _ _ h => h) ⟨y0, y1⟩ (Or.inl ⟨by kernel_rfl, fun W' hW => by obtain ⟨q0, q1⟩ := hW; go_simp⟩) ?_
          refine wpAnyS_take (i := 11) (v := .bool false) rfl (by kernel_rfl) (fun _ _ _ h => h) ⟨y0, y1⟩ (Or.inl ⟨by kernel_rfl, fun W' hW => by obtain ⟨q0, q1⟩ := hW; go_simp⟩) ?_
          refine wpAnyS_take (i := 12) (v := .pointer (some ⟨g, 0, none⟩)) rfl (by kernel_rfl) (fun _ _ _ h => h) ⟨y0, y1⟩ (Or.inl ⟨by kernel_rfl, fun W' hW => by obtain ⟨q0, q1⟩ := hW; go_simp⟩) ?_
          refine wpAnyS_take (i := 14) (v := .pointer (some ⟨gm, 0, none⟩)) rfl (by kernel_rfl) (fun _ _ _ h => h) ⟨y0, y1⟩ (Or.inl ⟨by kernel_rfl, fun W' hW => by obtain ⟨q0, q1⟩ := hW; go_simp⟩) ?_
          refine wpAnyS_take (i := 15) (v := .pointer (some ⟨gm, 0, none⟩)) rfl (by kernel_rfl) (fun _ _ _ h => h) ⟨y0, y1⟩ (Or.inl ⟨by kernel_rfl, fun W' hW => by obtain ⟨q0, q1⟩ := hW; go_simp⟩) ?_
          refine wpAnyS_take (i := 16) (v := .pointer (some ⟨gm, 0, none⟩)) rfl (by kernel_rfl) (fun _ _ _ h => h) ⟨y0, y1⟩ (Or.inl ⟨by kernel_rfl, fun W' hW => by obtain ⟨q0, q1⟩ := hW; go_simp⟩) ?_
          refine wpAnyS_take (i := 17) (v := .slice A8 n8 cc8) rfl (by kernel_rfl) (fun _ _ _ h => h) ⟨y0, y1⟩ (Or.inl ⟨by kernel_rfl, fun W' hW => by obtain ⟨q0, q1⟩ := hW; go_simp⟩) ?_
          refine wpAnyS_stepg 13 rfl (by decide +kernel) (by kernel_rfl) ?_
          go_wp2_with fail
          refine (dread_any ht9.dk (by rw [HN8.out]; exact hn9)).mono ?_
          rintro e w11 ⟨v11, rfl, ho11, hb11⟩
          obtain ⟨A11, c11, rfl, hs11, _, _⟩ := ho11.forms
          rw [HN8.out] at hs11 ⊢
          have hta := ht9.below hb11
          have hsga := hsg9.below hb11
          have hbwa := Below.next' hbw9 hb11 hbw9.size
          have y0a := cell_below hb11 y0
          have y1a := cell_below hb11 y1
          clear ht9 hsg9 hbw9 y0 y1 hb11 ho11
          go_wp2_with fail
          refine ⟨.inr ⟨y0a, y1a⟩, ?_⟩
          refine wpAnyS_stepg 18 rfl (by decide +kernel) (by kernel_rfl) ?_
          go_wp2_with fail
          refine (bytes_any A11 A8 n8 n8 c11 cc8 q8 q8 _ hs11 hsga (by simp only [maxLen]; omega)).mono ?_
          rintro e w12 ⟨rfl, u, rfl⟩
          rw [show (q8 == q8) = true by simp]
          have htb := hta.drewN u
          have hbwb := Below.drewN' hbwa u
          have y0b : (w11.drewN u).cell? ⟨gm, 0, none⟩ = some (.slice A8 n8 cc8) := y0a
          have y1b : (w11.drewN u).cell? ⟨gm, 1, none⟩ = some (.int .i64 (s8 : Int)) := y1a
          clear hta hsga hbwa hs11 y0a y1a
          generalize w11.drewN u = w12 at *
          go_wp2_with fail
          refine ⟨.inr ⟨y0b, y1b⟩, ?_⟩
          refine wpAnyS_stepg 19 rfl (by decide +kernel) (by kernel_rfl) ?_
          go_wp2_with fail
          refine ⟨.inr ⟨y0b, y1b⟩, ?_⟩
          refine wpAnyS_step 20 rfl (by decide +kernel) ?_
          go_wp2_with fail
          refine ⟨.inl rfl, ?_⟩
          refine wpAnyS_done (by decide +kernel) (NoPanic.normal ?_)
          go_wp2
          go_roundw
          case rel => exact ⟨k + 1, _, _, q8, s8, f8, c8, cm8, by omega, by go_num, htb, hrl8, by rw [HN8.out]; omega, hbwb⟩
          case measure => simp [intOf]; omega
        · go_wp2
          rw [HB.out, ← hw4]
          clear q0 q1 q2 hw4 HB
          refine wp_region_noPanic (wp_region_till (fun W' => W'.cell? ⟨b, 1, none⟩ = some (.int .i64 xn) ∧ W'.cell? ⟨b, 2, none⟩ = some (.slice B m cB)) 11 (by kernel_rfl) ?_)
          have ht5 := ht4.drewN 1
          have hsB5 := hsB4.drewN 1
          have hbw5 := Below.drewN' hbw4 1
          have hx15 : (w4.drewN 1).cell? ⟨b, 1, none⟩ = some (.int .i64 xn) := hx1'
          have hx25 : (w4.drewN 1).cell? ⟨b, 2, none⟩ = some (.slice B m cB) := hx2'
          change wpAnyT _ _ _ _ _ _ 12 _ _ (w4.drewN 1)
          clear ht4 hsB4 hbw4 hx0 hx1' hx2'
          generalize w4.drewN 1 = w5 at *
          refine wpAnyT_take (i := 0) (v := .pointer (some ⟨g, 0, none⟩)) rfl (by kernel_rfl) (fun _ _ _ h => h) ⟨hx15, hx25⟩ (Or.inl ⟨rfl, fun W' hW => by obtain ⟨q0, q1⟩ := hW; go_simp⟩) ?_
          refine wpAnyT_take (i := 1) (v := .pointer (some ⟨b, 1, none⟩)) rfl (by kernel_rfl) (fun _ _ _ h => h) ⟨hx15, hx25⟩ (Or.inl ⟨rfl, fun W' hW => by obtain ⟨q0, q1⟩ := hW; go_simp⟩) ?_
          refine wpAnyT_take (i := 2) (v := .int .i64 xn) rfl (by kernel_rfl) (fun _ _ _ h => h) ⟨hx15, hx25⟩ (Or.inl ⟨rfl, fun W' hW => by obtain ⟨q0, q1⟩ := hW; go_simp⟩) ?_
          refine wpAnyT_take (i := 3) (v := .int .i64 y50) rfl (by kernel_rfl) (fun _ _ _ h => h) ⟨hx15, hx25⟩ (Or.inl ⟨rfl, fun W' hW => by obtain ⟨q0, q1⟩ := hW; go_simp⟩) ?_
          refine wpAnyT_take (i := 5) (v := .pointer (some ⟨gm, 0, none⟩)) rfl (by kernel_rfl) (fun _ _ _ h => h) ⟨hx15, hx25⟩ (Or.inl ⟨rfl, fun W' hW => by obtain ⟨q0, q1⟩ := hW; go_simp⟩) ?_
          refine wpAnyT_take (i := 6) (v := .pointer (some ⟨b, 1, none⟩)) rfl (by kernel_rfl) (fun _ _ _ h => h) ⟨hx15, hx25⟩ (Or.inl ⟨rfl, fun W' hW => by obtain ⟨q0, q1⟩ := hW; go_simp⟩) ?_
          refine wpAnyT_take (i := 7) (v := .int .i64 xn) rfl (by kernel_rfl) (fun _ _ _ h => h) ⟨hx15, hx25⟩ (Or.inl ⟨rfl, fun W' hW => by obtain ⟨q0, q1⟩ := hW; go_simp⟩) ?_
          refine wpAnyT_take (i := 8) (v := .int .i64 y50) rfl (by kernel_rfl) (fun _ _ _ h => h) ⟨hx15, hx25⟩ (Or.inl ⟨rfl, fun W' hW => by obtain ⟨q0, q1⟩ := hW; go_simp⟩) ?_
          refine wpAnyT_step 4 rfl (by kernel_rfl) ?_
          go_wp2_with fail
          refine (cut_un ht5.dk bk hbk y50 (by omega)).mono ?_
          rintro e w6 ⟨rfl, v6, hd6, ho6, hm6⟩
          have hx16 := ho6.cell hx15 hnb
          have hx26 := ho6.cell hx25 hnb
          have hsB6 := hsB5.only ho6 (fun h a e hk => absurd hk (by
            have := hsB0.lt h a e
            intro hk
            have := ht5.dk.ge _ hk
            omega))
          have hbw6 := ht5.belowd hbw5 hz1 ho6
          have ht6 := ht5.d hd6 ho6 hm6
          clear ht5 hsB5 hbw5 hx15 hx25 hd6 ho6 hm6
          go_wp2_with fail
          refine ⟨.inr ⟨hx16, hx26⟩, ?_⟩
          refine wpAnyT_step 9 rfl (by kernel_rfl) ?_
          go_wp2_with fail
          refine (rcut_un ht6.mm bk hbk2 y50 (by omega)).mono ?_
          rintro e w7 ⟨rfl, v7, hd7, ho7, hm7⟩
          have hx17 := ho7.cell hx16 hnm
          have hx27 := ho7.cell hx26 hnm
          have hbw8 := ht6.belowm hbw6 hz1 ho7
          have ht7 := ht6.m hd7 ho7 hm7
          clear ht6 hsB6 hbw6 hx16 hx26 hd7 ho7 hm7
          go_wp2_with fail
          refine ⟨.inr ⟨hx17, hx27⟩, ?_⟩
          refine wpAnyT_step 10 rfl (by kernel_rfl) ?_
          go_wp2_with fail
          refine ⟨.inr ⟨hx17, hx27⟩, ?_⟩
          refine wpAnyT_step 11 rfl (by kernel_rfl) ?_
          go_wp2_with fail
          refine ⟨.inl trivial, ?_⟩
          refine wpAnyT_done (by kernel_rfl) (NoPanic.normal ?_)
          have T8 : ∃ (v8 vm8 : Value) (q8 : List UInt8) (s8 : Nat) (f8 : Bool) (c8 cm8 : Int), Mid w7 w1.heap.size g gm v8 vm8 q8 s8 f8 c8 q8 s8 cm8 ∧ Rl f8 c8 cm8 ∧ q8.length ≤ 60 + 40 * k + 40 := ⟨_, _, _, _, _, _, _, ht7, hrl2, by split <;> (first | (rw [List.length_take]; omega) | omega)⟩
          obtain ⟨v8, vm8, q8, s8, f8, c8, cm8, ht8, hrl8, hl8⟩ := T8
          clear ht7 hrl2 hrl hbk hbk2 hnb hnm hap hapm hy50 hy5 hy30 hy5b
          obtain ⟨A8, cc8, hv8, hsg8, hlc8, hcm8⟩ := ht8.mm.own.forms
          subst hv8
          have z0 := ht8.mm.mc.h0
          have z1 := ht8.mm.mc.h1
          obtain ⟨n8, hn8⟩ : ∃ n8, q8.length = n8 := ⟨_, rfl⟩
          have HN8 := Lib.hid hn8
          have h9 := ht8.dk.hs
          rw [hn8] at z0 hsg8 hlc8 hl8 h9
          have hn9 : n8 ≤ 1000000 := by omega
          clear hn8
          go_wp2
          refine wp_region_noPanic (wp_region_tills (fun W' => W'.cell? ⟨gm, 0, none⟩ = some (.slice A8 n8 cc8) ∧ W'.cell? ⟨gm, 1, none⟩ = some (.int .i64 (s8 : Int))) (fun j => decide (20 ≤ j)) (by kernel_rfl) ?_)
          have ht9 := ht8.drewN 1
          have hsg9 := hsg8.drewN 1
          have hbw9 := Below.drewN' hbw8 1
          have y0 : (w7.drewN 1).cell? ⟨gm, 0, none⟩ = some (.slice A8 n8 cc8) := z0
          have y1 : (w7.drewN 1).cell? ⟨gm, 1, none⟩ = some (.int .i64 (s8 : Int)) := z1
          change wpAnyS _ _ _ _ _ _ 21 _ _ (w7.drewN 1)
          clear ht8 hsg8 hbw8 z0 z1
          generalize w7.drewN 1 = w9 at *
          refine wpAnyS_take (i := 0) (v := .bool true) rfl (by kernel_rfl) (fun _ _ _ h => h) ⟨y0, y1⟩ (Or.inl ⟨by kernel_rfl, fun W' hW => by obtain ⟨q0, q1⟩ := hW; go_simp⟩) ?_
          refine wpAnyS_take (i := 1) (v := .bool false) rfl (by kernel_rfl) (fun _ _ _ h => h) ⟨y0, y1⟩ (Or.inl ⟨by kernel_rfl, fun W' hW => by obtain ⟨q0, q1⟩ := hW; go_simp⟩) ?_
          refine wpAnyS_take (i := 2) (v := .bool false) rfl (by kernel_rfl) (fun _ _ _ h => h) ⟨y0, y1⟩ (Or.inl ⟨by kernel_rfl, fun W' hW => by obtain ⟨q0, q1⟩ := hW; go_simp⟩) ?_
          refine wpAnyS_take (i := 3) (v := .pointer (some ⟨g, 0, none⟩)) rfl (by kernel_rfl) (fun _ _ _ h => h) ⟨y0, y1⟩ (Or.inl ⟨by kernel_rfl, fun W' hW => by obtain ⟨q0, q1⟩ := hW; go_simp⟩) ?_
          refine wpAnyS_take (i := 5) (v := .pointer (some ⟨gm, 0, none⟩)) rfl (by kernel_rfl) (fun _ _ _ h => h) ⟨y0, y1⟩ (Or.inl ⟨by kernel_rfl, fun W' hW => by obtain ⟨q0, q1⟩ := hW; go_simp⟩) ?_
          refine wpAnyS_take (i := 6) (v := .pointer (some ⟨gm, 0, none⟩)) rfl (by kernel_rfl) (fun _ _ _ h => h) ⟨y0, y1⟩ (Or.inl ⟨by kernel_rfl, fun W' hW => by obtain ⟨q0, q1⟩ := hW; go_simp⟩) ?_
          refine wpAnyS_take (i := 7) (v := .pointer (some ⟨gm, 1, none⟩)) rfl (by kernel_rfl) (fun _ _ _ h => h) ⟨y0, y1⟩ (Or.inl ⟨by kernel_rfl, fun W' hW => by obtain ⟨q0, q1⟩ := hW; go_simp⟩) ?_
          refine wpAnyS_take (i := 8) (v := .int .i64 (s8 : Int)) rfl (by kernel_rfl) (fun _ _ _ h => h) ⟨y0, y1⟩ (Or.inl ⟨by kernel_rfl, fun W' hW => by obtain ⟨q0, q1⟩ := hW; go_simp⟩) ?_
          refine wpAnyS_stepg 4 rfl (by decide +kernel) (by kernel_rfl) ?_
          go_wp2_with fail
          refine (safe_any ht9.dk.dc).mono ?_
          rintro e w10 ⟨rfl, rfl⟩
          go_wp2_with fail
          refine ⟨.inr ⟨y0, y1⟩, ?_⟩
          refine wpAnyS_take (i := 9) (v := .bool false) rfl (by kernel_rfl) (fun _ _ _ h => h) ⟨y0, y1⟩ (Or.inl ⟨by kernel_rfl, fun W' hW => by obtain ⟨q0, q1⟩ := hW; go_simp⟩) ?_
          refine wpAnyS_take (i := 10) (v := .bool false) rfl (by kernel_rfl) (fun _ _ _ h => h) ⟨y0, y1⟩ (Or.inl ⟨by kernel_rfl, fun W' hW => by obtain ⟨q0, q1⟩ := hW; go_simp⟩) ?_
          refine wpAnyS_take (i := 11) (v := .bool false) rfl (by kernel_rfl) (fun _ _ _ h => h) ⟨y0, y1⟩ (Or.inl ⟨by kernel_rfl, fun W' hW => by obtain ⟨q0, q1⟩ := hW; go_simp⟩) ?_
          refine wpAnyS_take (i := 12) (v := .pointer (some ⟨g, 0, none⟩)) rfl (by kernel_rfl) (fun _ _ _ h => h) ⟨y0, y1⟩ (Or.inl ⟨by kernel_rfl, fun W' hW => by obtain ⟨q0, q1⟩ := hW; go_simp⟩) ?_
          refine wpAnyS_take (i := 14) (v := .pointer (some ⟨gm, 0, none⟩)) rfl (by kernel_rfl) (fun _ _ _ h => h) ⟨y0, y1⟩ (Or.inl ⟨by kernel_rfl, fun W' hW => by obtain ⟨q0, q1⟩ := hW; go_simp⟩) ?_
          refine wpAnyS_take (i := 15) (v := .pointer (some ⟨gm, 0, none⟩)) rfl (by kernel_rfl) (fun _ _ _ h => h) ⟨y0, y1⟩ (Or.inl ⟨by kernel_rfl, fun W' hW => by obtain ⟨q0, q1⟩ := hW; go_simp⟩) ?_
          refine wpAnyS_take (i := 16) (v := .pointer (some ⟨gm, 0, none⟩)) rfl (by kernel_rfl) (fun _ _ _ h => h) ⟨y0, y1⟩ (Or.inl ⟨by kernel_rfl, fun W' hW => by obtain ⟨q0, q1⟩ := hW; go_simp⟩) ?_
          refine wpAnyS_take (i := 17) (v := .slice A8 n8 cc8) rfl (by kernel_rfl) (fun _ _ _ h => h) ⟨y0, y1⟩ (Or.inl ⟨by kernel_rfl, fun W' hW => by obtain ⟨q0, q1⟩ := hW; go_simp⟩) ?_
          refine wpAnyS_stepg 13 rfl (by decide +kernel) (by kernel_rfl) ?_
          go_wp2_with fail
          refine (dread_any ht9.dk (by rw [HN8.out]; exact hn9)).mono ?_
          rintro e w11 ⟨v11, rfl, ho11, hb11⟩
          obtain ⟨A11, c11, rfl, hs11, _, _⟩ := ho11.forms
          rw [HN8.out] at hs11 ⊢
          have hta := ht9.below hb11
          have hsga := hsg9.below hb11
          have hbwa := Below.next' hbw9 hb11 hbw9.size
          have y0a := cell_below hb11 y0
          have y1a := cell_below hb11 y1
          clear ht9 hsg9 hbw9 y0 y1 hb11 ho11
          go_wp2_with fail
          refine ⟨.inr ⟨y0a, y1a⟩, ?_⟩
          refine wpAnyS_stepg 18 rfl (by decide +kernel) (by kernel_rfl) ?_
          go_wp2_with fail
          refine (bytes_any A11 A8 n8 n8 c11 cc8 q8 q8 _ hs11 hsga (by simp only [maxLen]; omega)).mono ?_
          rintro e w12 ⟨rfl, u, rfl⟩
          rw [show (q8 == q8) = true by simp]
          have htb := hta.drewN u
          have hbwb := Below.drewN' hbwa u
          have y0b : (w11.drewN u).cell? ⟨gm, 0, none⟩ = some (.slice A8 n8 cc8) := y0a
          have y1b : (w11.drewN u).cell? ⟨gm, 1, none⟩ = some (.int .i64 (s8 : Int)) := y1a
          clear hta hsga hbwa hs11 y0a y1a
          generalize w11.drewN u = w12 at *
          go_wp2_with fail
          refine ⟨.inr ⟨y0b, y1b⟩, ?_⟩
          refine wpAnyS_stepg 19 rfl (by decide +kernel) (by kernel_rfl) ?_
          go_wp2_with fail
          refine ⟨.inr ⟨y0b, y1b⟩, ?_⟩
          refine wpAnyS_step 20 rfl (by decide +kernel) ?_
          go_wp2_with fail
          refine ⟨.inl rfl, ?_⟩
          refine wpAnyS_done (by decide +kernel) (NoPanic.normal ?_)
          go_wp2
          go_roundw
          case rel => exact ⟨k + 1, _, _, q8, s8, f8, c8, cm8, by omega, by go_num, htb, hrl8, by rw [HN8.out]; omega, hbwb⟩
          case measure => simp [intOf]; omega
        · go_wp2_with fail
          rw [HB.out, ← hw4]
          clear q0 q1 q2 hw4 HB
          refine (fail_any ht4.dk y5 hy5b).mono ?_
          rintro e w6 ⟨rfl, hd6, ho6'⟩
          have ho6 : Only w4 w6 (DkS g v) := ho6'.mono fun k _ e => .inl e
          have hx16 := ho6.cell hx1' hnb
          have hbw6 := ht4.belowd hbw4 hz1 ho6
          have ht6 := ht4.d hd6 ho6 (Moved.refl _ _)
          clear ht4 hsB4 hbw4 hx0 hx1' hx2' hd6 ho6 ho6'
          go_wp2_with fail
          refine (rfail_any ht6.mm y5 hy5b).mono ?_
          rintro e w7 ⟨rfl, hd7, ho7'⟩
          have ho7 : Only w6 w7 (DkS gm vm) := ho7'.mono fun k _ e => .inl e
          have hbw8 := ht6.belowm hbw6 hz1 ho7
          have ht7 := ht6.m hd7 ho7 (Moved.refl _ _)
          clear ht6 hbw6 hx16 hd7 ho7 ho7'
          have T8 : ∃ (v8 vm8 : Value) (q8 : List UInt8) (s8 : Nat) (f8 : Bool) (c8 cm8 : Int), Mid w7 w1.heap.size g gm v8 vm8 q8 s8 f8 c8 q8 s8 cm8 ∧ Rl f8 c8 cm8 ∧ q8.length ≤ 60 + 40 * k + 40 := ⟨_, _, _, _, _, _, _, ht7, Rl.fail y5, by omega⟩
          obtain ⟨v8, vm8, q8, s8, f8, c8, cm8, ht8, hrl8, hl8⟩ := T8
          clear ht7 hrl2 hrl hbk hbk2 hnb hnm hap hapm hy50 hy5 hy30 hy5b
          obtain ⟨A8, cc8, hv8, hsg8, hlc8, hcm8⟩ := ht8.mm.own.forms
          subst hv8
          have z0 := ht8.mm.mc.h0
          have z1 := ht8.mm.mc.h1
          obtain ⟨n8, hn8⟩ : ∃ n8, q8.length = n8 := ⟨_, rfl⟩
          have HN8 := Lib.hid hn8
          have h9 := ht8.dk.hs
          rw [hn8] at z0 hsg8 hlc8 hl8 h9
          have hn9 : n8 ≤ 1000000 := by omega
          clear hn8
          go_wp2
          refine wp_region_noPanic (wp_region_tills (fun W' => W'.cell? ⟨gm, 0, none⟩ = some (.slice A8 n8 cc8) ∧ W'.cell? ⟨gm, 1, none⟩ = some (.int .i64 (s8 : Int))) (fun j => decide (20 ≤ j)) (by kernel_rfl) ?_)
          have ht9 := ht8.drewN 1
          have hsg9 := hsg8.drewN 1
          have hbw9 := Below.drewN' hbw8 1
          have y0 : (w7.drewN 1).cell? ⟨gm, 0, none⟩ = some (.slice A8 n8 cc8) := z0
          have y1 : (w7.drewN 1).cell? ⟨gm, 1, none⟩ = some (.int .i64 (s8 : Int)) := z1
          change wpAnyS _ _ _ _ _ _ 21 _ _ (w7.drewN 1)
          clear ht8 hsg8 hbw8 z0 z1
          generalize w7.drewN 1 = w9 at *
          refine wpAnyS_take (i := 0) (v := .bool true) rfl (by kernel_rfl) (fun _ _ _ h => h) ⟨y0, y1⟩ (Or.inl ⟨by kernel_rfl, fun W' hW => by obtain ⟨q0, q1⟩ := hW; go_simp⟩) ?_
          refine wpAnyS_take (i := 1) (v := .bool false) rfl (by kernel_rfl) (fun _ _ _ h => h) ⟨y0, y1⟩ (Or.inl ⟨by kernel_rfl, fun W' hW => by obtain ⟨q0, q1⟩ := hW; go_simp⟩) ?_
          refine wpAnyS_take (i := 2) (v := .bool false) rfl (by kernel_rfl) (fun _ _ _ h => h) ⟨y0, y1⟩ (Or.inl ⟨by kernel_rfl, fun W' hW => by obtain ⟨q0, q1⟩ := hW; go_simp⟩) ?_
          refine wpAnyS_take (i := 3) (v := .pointer (some ⟨g, 0, none⟩)) rfl (by kernel_rfl) (fun _ _ _ h => h) ⟨y0, y1⟩ (Or.inl ⟨by kernel_rfl, fun W' hW => by obtain ⟨q0, q1⟩ := hW; go_simp⟩) ?_
          refine wpAnyS_take (i := 5) (v := .pointer (some ⟨gm, 0, none⟩)) rfl (by kernel_rfl) (fun _ _ _ h => h) ⟨y0, y1⟩ (Or.inl ⟨by kernel_rfl, fun W' hW => by obtain ⟨q0, q1⟩ := hW; go_simp⟩) ?_
          refine wpAnyS_take (i := 6) (v := .pointer (some ⟨gm, 0, none⟩)) rfl (by kernel_rfl) (fun _ _ _ h => h) ⟨y0, y1⟩ (Or.inl ⟨by kernel_rfl, fun W' hW => by obtain ⟨q0, q1⟩ := hW; go_simp⟩) ?_
          refine wpAnyS_take (i := 7) (v := .pointer (some ⟨gm, 1, none⟩)) rfl (by kernel_rfl) (fun _ _ _ h => h) ⟨y0, y1⟩ (Or.inl ⟨by kernel_rfl, fun W' hW => by obtain ⟨q0, q1⟩ := hW; go_simp⟩) ?_
          refine wpAnyS_take (i := 8) (v := .int .i64 (s8 : Int)) rfl (by kernel_rfl) (fun _ _ _ h => h) ⟨y0, y1⟩ (Or.inl ⟨by kernel_rfl, fun W' hW => by obtain ⟨q0, q1⟩ := hW; go_simp⟩) ?_
          refine wpAnyS_stepg 4 rfl (by decide +kernel) (by kernel_rfl) ?_
          go_wp2_with fail
          refine (safe_any ht9.dk.dc).mono ?_
          rintro e w10 ⟨rfl, rfl⟩
          go_wp2_with fail
          refine ⟨.inr ⟨y0, y1⟩, ?_⟩
          refine wpAnyS_take (i := 9) (v := .bool false) rfl (by kernel_rfl) (fun _ _ _ h => h) ⟨y0, y1⟩ (Or.inl ⟨by kernel_rfl, fun W' hW => by obtain ⟨q0, q1⟩ := hW; go_simp⟩) ?_
          refine wpAnyS_take (i := 10) (v := .bool false) rfl (by kernel_rfl) (fun _ _ _ h => h) ⟨y0, y1⟩ (Or.inl ⟨by kernel_rfl, fun W' hW => by obtain ⟨q0, q1⟩ := hW; go_simp⟩) ?_
          refine wpAnyS_take (i := 11) (v := .bool false) rfl (by kernel_rfl) (fun _ _ _ h => h) ⟨y0, y1⟩ (Or.inl ⟨by kernel_rfl, fun W' hW => by obtain ⟨q0, q1⟩ := hW; go_simp⟩) ?_
          refine wpAnyS_take (i := 12) (v := .pointer (some ⟨g, 0, none⟩)) rfl (by kernel_rfl) (fun _ _ _ h => h) ⟨y0, y1⟩ (Or.inl ⟨by kernel_rfl, fun W' hW => by obtain ⟨q0, q1⟩ := hW; go_simp⟩) ?_
          refine wpAnyS_take (i := 14) (v := .pointer (some ⟨gm, 0, none⟩)) rfl (by kernel_rfl) (fun _ _ _ h => h) ⟨y0, y1⟩ (Or.inl ⟨by kernel_rfl, fun W' hW => by obtain ⟨q0, q1⟩ := hW; go_simp⟩) ?_
          refine wpAnyS_take (i := 15) (v := .pointer (some ⟨gm, 0, none⟩)) rfl (by kernel_rfl) (fun _ _ _ h => h) ⟨y0, y1⟩ (Or.inl ⟨by kernel_rfl, fun W' hW => by obtain ⟨q0, q1⟩ := hW; go_simp⟩) ?_
          refine wpAnyS_take (i := 16) (v := .pointer (some ⟨gm, 0, none⟩)) rfl (by kernel_rfl) (fun _ _ _ h => h) ⟨y0, y1⟩ (Or.inl ⟨by kernel_rfl, fun W' hW => by obtain ⟨q0, q1⟩ := hW; go_simp⟩) ?_
          refine wpAnyS_take (i := 17) (v := .slice A8 n8 cc8) rfl (by kernel_rfl) (fun _ _ _ h => h) ⟨y0, y1⟩ (Or.inl ⟨by kernel_rfl, fun W' hW => by obtain ⟨q0, q1⟩ := hW; go_simp⟩) ?_
          refine wpAnyS_stepg 13 rfl (by decide +kernel) (by kernel_rfl) ?_
          go_wp2_with fail
          refine (dread_any ht9.dk (by rw [HN8.out]; exact hn9)).mono ?_
          rintro e w11 ⟨v11, rfl, ho11, hb11⟩
          obtain ⟨A11, c11, rfl, hs11, _, _⟩ := ho11.forms
          rw [HN8.out] at hs11 ⊢
          have hta := ht9.below hb11
          have hsga := hsg9.below hb11
          have hbwa := Below.next' hbw9 hb11 hbw9.size
          have y0a := cell_below hb11 y0
          have y1a := cell_below hb11 y1
          clear ht9 hsg9 hbw9 y0 y1 hb11 ho11
          go_wp2_with fail
          refine ⟨.inr ⟨y0a, y1a⟩, ?_⟩
          refine wpAnyS_stepg 18 rfl (by decide +kernel) (by kernel_rfl) ?_
          go_wp2_with fail
          refine (bytes_any A11 A8 n8 n8 c11 cc8 q8 q8 _ hs11 hsga (by simp only [maxLen]; omega)).mono ?_
          rintro e w12 ⟨rfl, u, rfl⟩
          rw [show (q8 == q8) = true by simp]
          have htb := hta.drewN u
          have hbwb := Below.drewN' hbwa u
          have y0b : (w11.drewN u).cell? ⟨gm, 0, none⟩ = some (.slice A8 n8 cc8) := y0a
          have y1b : (w11.drewN u).cell? ⟨gm, 1, none⟩ = some (.int .i64 (s8 : Int)) := y1a
          clear hta hsga hbwa hs11 y0a y1a
          generalize w11.drewN u = w12 at *
          go_wp2_with fail
          refine ⟨.inr ⟨y0b, y1b⟩, ?_⟩
          refine wpAnyS_stepg 19 rfl (by decide +kernel) (by kernel_rfl) ?_
          go_wp2_with fail
          refine ⟨.inr ⟨y0b, y1b⟩, ?_⟩
          refine wpAnyS_step 20 rfl (by decide +kernel) ?_
          go_wp2_with fail
          refine ⟨.inl rfl, ?_⟩
          refine wpAnyS_done (by decide +kernel) (NoPanic.normal ?_)
          go_wp2
          go_roundw
          case rel => exact ⟨k + 1, _, _, q8, s8, f8, c8, cm8, by omega, by go_num, htb, hrl8, by rw [HN8.out]; omega, hbwb⟩
          case measure => simp [intOf]; omega
        · go_wp2_with fail
          rw [HB.out, ← hw4]
          clear q0 q1 q2 hw4 HB
          refine (crash_any ht4.dk y30 (by omega)).mono ?_
          rintro e w6 ⟨rfl, v6, hd6, ho6', hv6⟩
          have ho6 : Only w4 w6 (DkS g v) := ho6'.mono fun k _ e => .inl e
          have hx16 := ho6.cell hx1' hnb
          have hbw6 := ht4.belowd hbw4 hz1 ho6
          have ht6 := ht4.d hd6 ho6 (Moved.of_eq hv6)
          clear ht4 hsB4 hbw4 hx0 hx1' hx2' hd6 ho6 ho6'
          go_wp2_with fail
          refine (rcrash_any ht6.mm y30 (by omega)).mono ?_
          rintro e w7 ⟨rfl, v7, hd7, ho7', hm7⟩
          have ho7 : Only w6 w7 (DkS gm vm) := ho7'.mono fun k _ e => .inl e
          have hbw8 := ht6.belowm hbw6 hz1 ho7
          have ht7 := ht6.m hd7 ho7 hm7
          clear ht6 hbw6 hx16 hd7 ho7 ho7'
          have T8 : ∃ (v8 vm8 : Value) (q8 : List UInt8) (s8 : Nat) (f8 : Bool) (c8 cm8 : Int), Mid w7 w1.heap.size g gm v8 vm8 q8 s8 f8 c8 q8 s8 cm8 ∧ Rl f8 c8 cm8 ∧ q8.length ≤ 60 + 40 * k + 40 := ⟨_, _, _, _, _, _, _, ht7, Rl.crash cd, by rw [List.length_take]; omega⟩
          obtain ⟨v8, vm8, q8, s8, f8, c8, cm8, ht8, hrl8, hl8⟩ := T8
          clear ht7 hrl2 hrl hbk hbk2 hnb hnm hap hapm hy50 hy5 hy30 hy5b
          obtain ⟨A8, cc8, hv8, hsg8, hlc8, hcm8⟩ := ht8.mm.own.forms
          subst hv8
          have z0 := ht8.mm.mc.h0
          have z1 := ht8.mm.mc.h1
          obtain ⟨n8, hn8⟩ : ∃ n8, q8.length = n8 := ⟨_, rfl⟩
          have HN8 := Lib.hid hn8
          have h9 := ht8.dk.hs
          rw [hn8] at z0 hsg8 hlc8 hl8 h9
          have hn9 : n8 ≤ 1000000 := by omega
          clear hn8
          go_wp2
          refine wp_region_noPanic (wp_region_tills (fun W' => W'.cell? ⟨gm, 0, none⟩ = some (.slice A8 n8 cc8) ∧ W'.cell? ⟨gm, 1, none⟩ = some (.int .i64 (s8 : Int))) (fun j => decide (20 ≤ j)) (by kernel_rfl) ?_)
          have ht9 := ht8.drewN 1
          have hsg9 := hsg8.drewN 1
          have hbw9 := Below.drewN' hbw8 1
          have y0 : (w7.drewN 1).cell? ⟨gm, 0, none⟩ = some (.slice A8 n8 cc8) := z0
          have y1 : (w7.drewN 1).cell? ⟨gm, 1, none⟩ = some (.int .i64 (s8 : Int)) := z1
          change wpAnyS _ _ _ _ _ _ 21 _ _ (w7.drewN 1)
          clear ht8 hsg8 hbw8 z0 z1
          generalize w7.drewN 1 = w9 at *
          refine wpAnyS_take (i := 0) (v := .bool true) rfl (by kernel_rfl) (fun _ _ _ h => h) ⟨y0, y1⟩ (Or.inl ⟨by kernel_rfl, fun W' hW => by obtain ⟨q0, q1⟩ := hW; go_simp⟩) ?_
          refine wpAnyS_take (i := 1) (v := .bool false) rfl (by kernel_rfl) (fun _ _ _ h => h) ⟨y0, y1⟩ (Or.inl ⟨by kernel_rfl, fun W' hW => by obtain ⟨q0, q1⟩ := hW; go_simp⟩) ?_
          refine wpAnyS_take (i := 2) (v := .bool false) rfl (by kernel_rfl) (fun _ _ _ h => h) ⟨y0, y1⟩ (Or.inl ⟨by kernel_rfl, fun W' hW => by obtain ⟨q0, q1⟩ := hW; go_simp⟩) ?_
          refine wpAnyS_take (i := 3) (v := .pointer (some ⟨g, 0, none⟩)) rfl (by kernel_rfl) (fun _ _ _ h => h) ⟨y0, y1⟩ (Or.inl ⟨by kernel_rfl, fun W' hW => by obtain ⟨q0, q1⟩ := hW; go_simp⟩) ?_
          refine wpAnyS_take (i := 5) (v := .pointer (some ⟨gm, 0, none⟩)) rfl (by kernel_rfl) (fun _ _ _ h => h) ⟨y0, y1⟩ (Or.inl ⟨by kernel_rfl, fun W' hW => by obtain ⟨q0, q1⟩ := hW; go_simp⟩) ?_
          refine wpAnyS_take (i := 6) (v := .pointer (some ⟨gm, 0, none⟩)) rfl (by kernel_rfl) (fun _ _ _ h => h) ⟨y0, y1⟩ (Or.inl ⟨by kernel_rfl, fun W' hW => by obtain ⟨q0, q1⟩ := hW; go_simp⟩) ?_
          refine wpAnyS_take (i := 7) (v := .pointer (some ⟨gm, 1, none⟩)) rfl (by kernel_rfl) (fun _ _ _ h => h) ⟨y0, y1⟩ (Or.inl ⟨by kernel_rfl, fun W' hW => by obtain ⟨q0, q1⟩ := hW; go_simp⟩) ?_
          refine wpAnyS_take (i := 8) (v := .int .i64 (s8 : Int)) rfl (by kernel_rfl) (fun _ _ _ h => h) ⟨y0, y1⟩ (Or.inl ⟨by kernel_rfl, fun W' hW => by obtain ⟨q0, q1⟩ := hW; go_simp⟩) ?_
          refine wpAnyS_stepg 4 rfl (by decide +kernel) (by kernel_rfl) ?_
          go_wp2_with fail
          refine (safe_any ht9.dk.dc).mono ?_
          rintro e w10 ⟨rfl, rfl⟩
          go_wp2_with fail
          refine ⟨.inr ⟨y0, y1⟩, ?_⟩
          refine wpAnyS_take (i := 9) (v := .bool false) rfl (by kernel_rfl) (fun _ _ _ h => h) ⟨y0, y1⟩ (Or.inl ⟨by kernel_rfl, fun W' hW => by obtain ⟨q0, q1⟩ := hW; go_simp⟩) ?_
          refine wpAnyS_take (i := 10) (v := .bool false) rfl (by kernel_rfl) (fun _ _ _ h => h) ⟨y0, y1⟩ (Or.inl ⟨by kernel_rfl, fun W' hW => by obtain ⟨q0, q1⟩ := hW; go_simp⟩) ?_
          refine wpAnyS_take (i := 11) (v := .bool false) rfl (by kernel_rfl) (fun _ _ _ h => h) ⟨y0, y1⟩ (Or.inl ⟨by kernel_rfl, fun W' hW => by obtain ⟨q0, q1⟩ := hW; go_simp⟩) ?_
          refine wpAnyS_take (i := 12) (v := .pointer (some ⟨g, 0, none⟩)) rfl (by kernel_rfl) (fun _ _ _ h => h) ⟨y0, y1⟩ (Or.inl ⟨by kernel_rfl, fun W' hW => by obtain ⟨q0, q1⟩ := hW; go_simp⟩) ?_
          refine wpAnyS_take (i := 14) (v := .pointer (some ⟨gm, 0, none⟩)) rfl (by kernel_rfl) (fun _ _ _ h => h) ⟨y0, y1⟩ (Or.inl ⟨by kernel_rfl, fun W' hW => by obtain ⟨q0, q1⟩ := hW; go_simp⟩) ?_
          refine wpAnyS_take (i := 15) (v := .pointer (some ⟨gm, 0, none⟩)) rfl (by kernel_rfl) (fun _ _ _ h => h) ⟨y0, y1⟩ (Or.inl ⟨by kernel_rfl, fun W' hW => by obtain ⟨q0, q1⟩ := hW; go_simp⟩) ?_
          refine wpAnyS_take (i := 16) (v := .pointer (some ⟨gm, 0, none⟩)) rfl (by kernel_rfl) (fun _ _ _ h => h) ⟨y0, y1⟩ (Or.inl ⟨by kernel_rfl, fun W' hW => by obtain ⟨q0, q1⟩ := hW; go_simp⟩) ?_
          refine wpAnyS_take (i := 17) (v := .slice A8 n8 cc8) rfl (by kernel_rfl) (fun _ _ _ h => h) ⟨y0, y1⟩ (Or.inl ⟨by kernel_rfl, fun W' hW => by obtain ⟨q0, q1⟩ := hW; go_simp⟩) ?_
          refine wpAnyS_stepg 13 rfl (by decide +kernel) (by kernel_rfl) ?_
          go_wp2_with fail
          refine (dread_any ht9.dk (by rw [HN8.out]; exact hn9)).mono ?_
          rintro e w11 ⟨v11, rfl, ho11, hb11⟩
          obtain ⟨A11, c11, rfl, hs11, _, _⟩ := ho11.forms
          rw [HN8.out] at hs11 ⊢
          have hta := ht9.below hb11
          have hsga := hsg9.below hb11
          have hbwa := Below.next' hbw9 hb11 hbw9.size
          have y0a := cell_below hb11 y0
          have y1a := cell_below hb11 y1
          clear ht9 hsg9 hbw9 y0 y1 hb11 ho11
          go_wp2_with fail
          refine ⟨.inr ⟨y0a, y1a⟩, ?_⟩
          refine wpAnyS_stepg 18 rfl (by decide +kernel) (by kernel_rfl) ?_
          go_wp2_with fail
          refine (bytes_any A11 A8 n8 n8 c11 cc8 q8 q8 _ hs11 hsga (by simp only [maxLen]; omega)).mono ?_
          rintro e w12 ⟨rfl, u, rfl⟩
          rw [show (q8 == q8) = true by simp]
          have htb := hta.drewN u
          have hbwb := Below.drewN' hbwa u
          have y0b : (w11.drewN u).cell? ⟨gm, 0, none⟩ = some (.slice A8 n8 cc8) := y0a
          have y1b : (w11.drewN u).cell? ⟨gm, 1, none⟩ = some (.int .i64 (s8 : Int)) := y1a
          clear hta hsga hbwa hs11 y0a y1a
          generalize w11.drewN u = w12 at *
          go_wp2_with fail
          refine ⟨.inr ⟨y0b, y1b⟩, ?_⟩
          refine wpAnyS_stepg 19 rfl (by decide +kernel) (by kernel_rfl) ?_
          go_wp2_with fail
          refine ⟨.inr ⟨y0b, y1b⟩, ?_⟩
          refine wpAnyS_step 20 rfl (by decide +kernel) ?_
          go_wp2_with fail
          refine ⟨.inl rfl, ?_⟩
          refine wpAnyS_done (by decide +kernel) (NoPanic.normal ?_)
          go_wp2
          go_roundw
          case rel => exact ⟨k + 1, _, _, q8, s8, f8, c8, cm8, by omega, by go_num, htb, hrl8, by rw [HN8.out]; omega, hbwb⟩
          case measure => simp [intOf]; omega
      · have dm : decide ((40 : Int) < (m : Int)) = true := decide_eq_true (by omega)
        go_wp2
        go_ret
        exact ⟨rfl, hbw.alloc hbw.size _⟩
    · obtain rfl : n = k := by omega
      go_wp2
      go_ret
      exact ⟨rfl, hbw⟩

set_option maxRecDepth 8000 in
set_option maxHeartbeats 4000000 in
theorem diskPlays_long (A0 : Option Addr) (n0 c0 : Nat) (A : Option Addr) (n c : Nat) (w : World) (h : ¬ (n0 ≤ 60 ∧ n ≤ 80)) :
    Calls Try.prog 3 #[.slice A0 n0 c0, .slice A n c] w fun e w' => e = .returned (.bool true) ∧ Below w.heap.size w w' := by
  have hc : 60 < n0 ∨ n0 ≤ 60 ∧ 80 < n := by omega
  rcases hc with g0 | ⟨g0, g1⟩
  · have d0 : decide ((60 : Int) < (n0 : Int)) = true := decide_eq_true (by omega)
    go_enter Try.func3, Try.ntmps3
    go_wp2_with fail
    refine (keeps_any _).mono ?_
    rintro e w1 ⟨rfl, hb1⟩
    go_wp2_with fail
    refine (keeps_any _).mono ?_
    rintro e w2 ⟨rfl, hb2⟩
    go_wp2
    go_ret
    exact ⟨rfl, Below.next' hb1 hb2 hb1.size⟩
  · have d0 : decide ((60 : Int) < (n0 : Int)) = false := decide_eq_false (by omega)
    have d1 : decide ((80 : Int) < (n : Int)) = true := decide_eq_true (by omega)
    go_enter Try.func3, Try.ntmps3
    go_wp2_with fail
    refine (keeps_any _).mono ?_
    rintro e w1 ⟨rfl, hb1⟩
    go_wp2_with fail
    refine (keeps_any _).mono ?_
    rintro e w2 ⟨rfl, hb2⟩
    go_wp2
    go_ret
    exact ⟨rfl, Below.next' hb1 hb2 hb1.size⟩

theorem diskPlays_walk (A0 : Option Addr) (n0 c0 : Nat) (l0 : List UInt8) (A : Option Addr) (n c : Nat) (L : List DAct) (w : World) (hp : Seg w A0 n0 l0) (_ : n0 ≤ c0) (_ : c0 ≤ maxLen) (ha : SegDA w A n L) (_ : n ≤ c) (_ : c ≤ maxLen) :
    Calls Try.prog 3 #[.slice A0 n0 c0, .slice A n c] w fun e w' => e = .returned (.bool true) ∧ Below w.heap.size w w' := by
  by_cases h : n0 ≤ 60 ∧ n ≤ 80
  · exact diskPlays_core A0 n0 c0 l0 A n c L w hp ha h.1 h.2
  · exact diskPlays_long A0 n0 c0 A n c w h

end Go.Proofs.Ythpcpecklemfcaa
