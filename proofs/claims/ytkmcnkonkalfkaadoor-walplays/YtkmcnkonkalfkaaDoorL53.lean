/-
  The walk of the law WalTorn.
-/
import Derived.Test.YtkmcnkonkalfkaaDoorL52
import Derived.Test.YtkmcnkonkalfkaaDoorMemS
import Derived.Test.YtkmcnkonkalfkaaDoorQV
namespace Go.Proofs.YtkmcnkonkalfkaaDoor
open Go.RowKit

theorem Small.take {L : List (List UInt8)} (h : Small L) (k : Nat) : Small (L.take k) :=
  ⟨by rw [List.length_take]; have := h.1; omega, fun q hq => h.2 q (List.mem_of_mem_take hq)⟩
theorem sizeL_take_le (L : List (List UInt8)) (k : Nat) : sizeL (L.take k) ≤ sizeL L := by
  have h : sizeL (L.take k ++ L.drop k) = sizeL (L.take k) + sizeL (L.drop k) := sizeL_append _ _
  rw [List.take_append_drop] at h
  omega
theorem allL_take (L : List (List UInt8)) (k : Nat) : (allL L).take (sizeL (L.take k)) = allL (L.take k) := by
  have h : allL (L.take k ++ L.drop k) = allL (L.take k) ++ allL (L.drop k) := allL_append _ _
  rw [List.take_append_drop] at h
  rw [h, List.take_left' (allL_length _)]
theorem xor_byte (a b : Nat) (ha : a < 256) (hb : b < 256) : bits .xor .u8 (a : Int) (b : Int) = ((UInt8.ofNat (a ^^^ b)).toNat : Int) := by
  rw [u8_xor_nat a b ha hb]
  have : a ^^^ b < 2 ^ 8 := Nat.xor_lt_two_pow (by omega) (by omega)
  congr 1
  rw [UInt8.toNat_ofNat']
  exact (Nat.mod_eq_of_lt this).symm

set_option maxRecDepth 8000 in
set_option maxHeartbeats 16000000 in
theorem walTorn_core (A : Option Addr) (n c : Nat) (L : List (List UInt8)) (at_ t N : Nat) (w : World) (ha : SegL w A n L) (hc : n ≤ c) (hcm : c ≤ maxLen) (hS : Small L) (_ : at_ < 65536) (ht8 : t < 256) (hN : (allL L).length = N) (hN0 : 0 < N) (ht : Tab w) :
    Calls Tryd.prog 5 #[.slice A n c, .int .u16 (at_ : Int), .int .u8 (t : Int)] w fun e w' => e = .returned (.bool true) ∧ Below w.heap.size w w' := by
  have HCM := Lib.hid hcm
  simp only [maxLen] at hcm
  have HLN := Lib.hid ha.1
  have hsz : sizeL L = N := by rw [← hN, allL_length]
  obtain ⟨fl, hfl⟩ : ∃ fl, allL L = fl := ⟨_, rfl⟩
  have HFL := Lib.hid hfl
  have HF := Lib.hid (show fl.length = N by rw [← hfl, hN])
  have hNb : N ≤ 1360 := by
    have h1 := Small.size (L := L) hS.2
    have h2 := hS.1
    omega
  have hn20 : n ≤ 20 := by rw [← ha.1]; exact hS.1
  have HSZ := Lib.hid hsz
  have HS := Lib.hid hS
  obtain ⟨k, hk⟩ : ∃ k, at_ % N = k := ⟨_, rfl⟩
  have hkN : k < N := by rw [← hk]; exact Nat.mod_lt _ hN0
  have hm1 : (at_ : Int) % (N : Int) = (k : Int) := by rw [← hk]; rfl
  have hm2 : Int.tmod (at_ : Int) (N : Int) = (k : Int) := by rw [Int.tmod_eq_emod_of_nonneg (by omega)]; exact hm1
  have hNn : ¬ N = 0 := by omega
  have hNz : ¬ (N : Int) = 0 := by omega
  have hNy : ((N : Int) == 0) = false := by simp; omega
  clear hfl hN hsz hS hk
  go_enter Tryd.func5, Tryd.ntmps5
  go_wp2_with fail
  refine (both_any _ ht).mono ?_
  rintro e w1 ⟨rfl, hb1⟩
  go_wp2_with fail
  refine (small_any A n c L _ (ha.below hb1) hc HCM.out).mono ?_
  rintro e w0 ⟨⟨b, rfl, hb⟩, rfl⟩
  obtain rfl : b = true := hb.2 HS.out
  clear hb
  go_wp2_with fail
  refine (all_any A n c L _ (ha.below hb1) HS.out).mono ?_
  rw [HFL.out]
  rintro e w2 ⟨v2, rfl, ho2, hb2⟩
  have hbw2 := Below.next' hb1 hb2 hb1.size
  obtain ⟨A2, c2, rfl, hs2, hl2, hm2'⟩ := ho2.forms
  rw [HF.out] at hs2 hl2 ⊢
  clear ho2 hb1 hb2
  go_wp2_with fail
  go_loopw [9] (fun i w' => ∃ j : Nat, j ≤ n ∧ i = .int .i64 j ∧ sizeL (L.take j) ≤ k ∧ Seg w' A2 N fl ∧ Below w.heap.size w w') (fun i _ => n - (intOf i).toNat)
  case atStart => exact ⟨0, by omega, rfl, by simp [sizeL], hs2, hbw2⟩
  case round =>
    clear hs2 hbw2
    obtain ⟨j, hj, rfl, hsj, hs2, hbw⟩ := hrel
    have hjn : j < n := by
      rcases Nat.lt_or_ge j n with h | h
      · exact h
      · rw [List.take_of_length_le (by rw [HLN.out]; exact h), HSZ.out] at hsj
        omega
    have hjb : j + 1 ≤ c := by omega
    obtain ⟨z, hz⟩ : ∃ z, sizeL (L.take (j + 1)) = z := ⟨_, rfl⟩
    have HZ := Lib.hid hz
    have HSJ := Lib.hid hsj
    clear hz hsj
    have hwj : IntKind.i64.wrap ((j : Int) + 1) = ((j + 1 : Nat) : Int) := by rw [IntWalk.i64_in _ (by omega)]; omega
    go_wp2_with fail
    refine (all_any A (j + 1) c (L.take (j + 1)) _ ((ha.below hbw).upto (j + 1) (by omega)) (HS.out.take _)).mono ?_
    rintro e w3 ⟨v3, rfl, ho3, hb3⟩
    have hbw3 := Below.next' hbw hb3 hbw.size
    have hs3 := hs2.below hb3
    obtain ⟨A3, c3, rfl, _, _, _⟩ := ho3.forms
    rw [show (allL (L.take (j + 1))).length = z by rw [allL_length, HZ.out]]
    clear ho3 hb3 hbw hs2
    by_cases hzk : z ≤ k
    · have dz : decide ((z : Int) ≤ (k : Int)) = true := decide_eq_true (by omega)
      go_wp2
      go_roundw
      case rel => exact ⟨j + 1, hjn, by go_num, by rw [HZ.out]; exact hzk, hs3, hbw3⟩
      case measure => simp [intOf]; omega
    · have dz : decide ((z : Int) ≤ (k : Int)) = false := decide_eq_false (by omega)
      have hkc2 : k ≤ c2 := by omega
      have HSA := Lib.hid (show scanL (fl.take k) = L.take j by
        rw [← HFL.out]
        exact scan_torn L k j HS.out.le (by rw [HLN.out]; exact hjn) HSJ.out (by rw [HZ.out]; omega))
      obtain ⟨M, hM⟩ : ∃ M, L.take j = M := ⟨_, rfl⟩
      rw [hM] at HSA
      have HMM := Lib.hid hM
      obtain ⟨y, hy⟩ : ∃ y, sizeL M = y := ⟨_, rfl⟩
      have HY := Lib.hid hy
      have hyk : y ≤ k := by rw [← hy, ← hM]; exact HSJ.out
      have HML := Lib.hid (show M.length = j by rw [← hM, List.length_take, HLN.out]; omega)
      clear hM hy HSJ HZ
      go_wp2_with fail
      refine (scan_any A2 k c2 (fl.take k) _ (hs3.upto k (by omega)) (by omega) hkc2 hm2' (Tab.below ht hbw3)).mono ?_
      rw [HSA.out, HY.out]
      rintro e w4 ⟨v4, rfl, ho4, hb4⟩
      have hbw4 := Below.next' hbw3 hb4 hbw3.size
      have hs24 := hs3.below hb4
      obtain ⟨A4, c4, rfl, hs4, _, _⟩ := ho4.seg
      rw [HML.out] at hs4 ⊢
      clear ho4 hb4 hbw3 hs3
      go_wp2_with fail
      refine (join_any A2 none N 0 c2 0 fl [] _ hs24 (Seg.nil _ _) (by omega)).mono ?_
      rintro e w5 ⟨v5, rfl, ho5, hb5⟩
      rw [List.append_nil] at ho5
      have hbw5 := Below.next' hbw4 hb5 hbw4.size
      have hs45 := hs4.below hb5
      obtain ⟨g5, c5, hv5, hg5, hlt5, x5, f5, hl5, hm5, hset⟩ := own_set ho5 k (by rw [HF.out]; exact hkN)
      subst hv5
      rw [HF.out] at hl5
      obtain ⟨xb, hxb⟩ : ∃ xb : UInt8, fl[k]'(by rw [HF.out]; exact hkN) = xb := ⟨_, rfl⟩
      rw [hxb] at x5
      have hxor := xor_byte xb.toNat t (UInt8.toNat_lt xb) ht8
      obtain ⟨xc, hxc⟩ : ∃ xc : UInt8, UInt8.ofNat (xb.toNat ^^^ t) = xc := ⟨_, rfl⟩
      rw [hxc] at hxor
      have hset := hset xc
      rw [HF.out] at hset ⊢
      obtain ⟨fd, hfd⟩ : ∃ fd, fl.set k xc = fd := ⟨_, rfl⟩
      rw [hfd] at hset
      have HFD := Lib.hid (show fd.length = N by rw [← hfd, List.length_set, HF.out])
      have hsc : ∃ r, scanL fd = M ++ r := by
        rw [← HMM.out]
        refine scan_ahead L j fd HS.out.le ?_
        rw [HMM.out, HY.out, ← hfd, List.take_set_of_le hyk, ← HFL.out]
        have := allL_take L j
        rw [HMM.out, HY.out] at this
        exact this
      obtain ⟨r, hr⟩ := hsc
      obtain ⟨Q, hQ⟩ : ∃ Q, scanL fd = Q := ⟨_, rfl⟩
      have HQ := Lib.hid hQ
      rw [hQ] at hr
      obtain ⟨kq, hkq⟩ : ∃ kq, Q.length = kq := ⟨_, rfl⟩
      have HKQ := Lib.hid hkq
      have hjq : j ≤ kq := by rw [← hkq, hr, List.length_append, HML.out]; omega
      have HQT := Lib.hid (show Q.take j = M by rw [hr, List.take_left' HML.out])
      have hkqb : kq ≤ 1000000 := by
        have h1 := scanL_size fd
        have h2 := length_le_size Q
        rw [hQ, HFD.out] at h1
        omega
      have hs45' : SegL (w5.setCell ⟨g5, k, none⟩ (.int .u8 (xc.toNat : Int))) A4 j M := by
        refine ⟨hs45.1, fun hn => ?_⟩
        obtain ⟨ga, oa, ea, hca⟩ := hs4.2 hn
        refine ⟨ga, oa, ea, fun i l hl => ?_⟩
        obtain ⟨B0, m0, c0, z0, z1, z2⟩ := hca i l hl
        have hne : ∀ p : Addr, p.block < w4.heap.size → (⟨g5, k, none⟩ : Addr) ≠ p := fun p hp e => by rw [← e] at hp; have : g5 < w4.heap.size := hp; omega
        refine ⟨B0, m0, c0, (World.cell?_setCell_other (h := hne _ (World.block_lt_of_cell? w4 _ z0)) ..).trans (cell_below hb5 z0), ?_, z2⟩
        exact z1.keep fun p hp => (World.cell?_setCell_other (h := hne p hp) ..).trans (hb5.cell hp)
      have hbw5' : Below w.heap.size w (w5.setCell ⟨g5, k, none⟩ (.int .u8 (xc.toNat : Int))) := hbw5.setCell (show w.heap.size ≤ g5 by have := hbw4.size; omega) _
      clear hfd hQ hkq hr hxc hxb ho5 hs45 hs4 hbw4 hb5 hs24 hbw5
      go_wp2_with fail
      generalize w5.setCell ⟨g5, k, none⟩ (.int .u8 (xc.toNat : Int)) = w6 at *
      refine (scan_any _ N c5 fd _ hset (by omega) hl5 hm5 (Tab.below ht hbw5')).mono ?_
      rw [HQ.out]
      rintro e w7 ⟨v7, rfl, ho7, hb7⟩
      have hbw7 := Below.next' hbw5' hb7 hbw5'.size
      have hs47 := hs45'.below hb7
      have hs67 := hset.below hb7
      obtain ⟨A7, c7, rfl, hs7, hl7, hm7⟩ := ho7.seg
      rw [HKQ.out] at hs7 hl7 ⊢
      clear ho7 hb7 hbw5' hs45' hset x5 f5
      go_wp2_with fail
      refine (rscan_any _ N c5 fd _ hs67 (by omega) hl5 hm5).mono ?_
      rw [HQ.out]
      rintro e w8 ⟨v8, rfl, ho8, hb8⟩
      have hbw8 := Below.next' hbw7 hb8 hbw7.size
      have hs48 := hs47.below hb8
      have hs78 := hs7.below hb8
      obtain ⟨A8, c8, rfl, hs8, hl8, hm8⟩ := ho8.seg
      rw [HKQ.out] at hs8 hl8 ⊢
      clear ho8 hb8 hbw7 hs47 hs7 hs67
      have hjc : j ≤ c := by omega
      go_wp2
      refine wp_region_noPanic (wp_region_till (fun _ => True) 38 (by kernel_rfl) ?_)
      have hD := Below.drewN' (Below.refl w8.heap.size w8) 1
      have hbw8d := Below.drewN' hbw8 1
      have hs48d := hs48.below hD
      have hs78d := hs78.below hD
      have hs8d := hs8.below hD
      change wpAnyT _ _ _ _ _ _ 39 _ _ (w8.drewN 1)
      clear hs48 hs78 hs8 hbw8 hD
      generalize w8.drewN 1 = wd at *
      have hLj : SegL wd A j M := by
        have := (ha.below hbw8d).upto j (by omega)
        rw [HMM.out] at this
        exact this
      refine wpAnyT_take (i := 0) (v := .slice A4 j c4) rfl (by kernel_rfl) (fun _ _ _ h => h) trivial (Or.inl ⟨rfl, fun W' hW => by go_simp⟩) ?_
      refine wpAnyT_take (i := 1) (v := .slice A n c) rfl (by kernel_rfl) (fun _ _ _ h => h) trivial (Or.inl ⟨rfl, fun W' hW => by go_simp⟩) ?_
      refine wpAnyT_take (i := 2) (v := .int .i64 (j : Int)) rfl (by kernel_rfl) (fun _ _ _ h => h) trivial (Or.inl ⟨rfl, fun W' hW => by go_simp⟩) ?_
      refine wpAnyT_take (i := 3) (v := .slice A j c) rfl (by kernel_rfl) (fun _ _ _ h => h) trivial (Or.inl ⟨rfl, fun W' hW => by go_simp⟩) ?_
      refine wpAnyT_step 4 rfl (by decide +kernel) ?_
      go_wp2_with fail
      refine (same_any A4 A j j c4 c M M _ hs48d hLj (by omega)).mono ?_
      rintro e w9 ⟨rfl, u2, rfl⟩
      rw [show (M == M) = true by simp]
      have hbw9 := Below.drewN' hbw8d u2
      have hs79 : SegL (wd.drewN u2) A7 kq Q := hs78d
      have hs89 : SegL (wd.drewN u2) A8 kq Q := hs8d
      clear hbw8d hs48d hs78d hs8d hLj
      generalize wd.drewN u2 = w9 at *
      go_wp2_with fail
      refine ⟨.inr trivial, ?_⟩
      refine wpAnyT_take (i := 5) (v := .bool true) rfl (by kernel_rfl) (fun _ _ _ h => h) trivial (Or.inl ⟨rfl, fun W' hW => by go_simp⟩) ?_
      refine wpAnyT_take (i := 6) (v := .int .i64 (y : Int)) rfl (by kernel_rfl) (fun _ _ _ h => h) trivial (Or.inl ⟨by kernel_rfl, fun W' hW => by go_simp⟩) ?_
      refine wpAnyT_take (i := 7) (v := .slice A n c) rfl (by kernel_rfl) (fun _ _ _ h => h) trivial (Or.inl ⟨by kernel_rfl, fun W' hW => by go_simp⟩) ?_
      refine wpAnyT_take (i := 8) (v := .int .i64 (j : Int)) rfl (by kernel_rfl) (fun _ _ _ h => h) trivial (Or.inl ⟨by kernel_rfl, fun W' hW => by go_simp⟩) ?_
      refine wpAnyT_take (i := 9) (v := .slice A j c) rfl (by kernel_rfl) (fun _ _ _ h => h) trivial (Or.inl ⟨by kernel_rfl, fun W' hW => by go_simp⟩) ?_
      refine wpAnyT_stepg 10 rfl (by decide +kernel) (by kernel_rfl) ?_
      go_wp2_with fail
      refine (all_any A j c M _ (by have := (ha.below hbw9).upto j (by omega); rw [HMM.out] at this; exact this) (by rw [← HMM.out]; exact HS.out.take _)).mono ?_
      rintro e w10 ⟨v10, rfl, ho10, hb10⟩
      have hbw10 := Below.next' hbw9 hb10 hbw9.size
      have hs710 := hs79.below hb10
      have hs810 := hs89.below hb10
      obtain ⟨A10, c10, rfl, _, _, _⟩ := ho10.forms
      rw [show (allL M).length = y by rw [allL_length, HY.out]]
      clear ho10 hb10 hbw9 hs79 hs89
      go_wp2_with fail
      refine ⟨.inr trivial, ?_⟩
      refine wpAnyT_take (i := 11) (v := .int .i64 (y : Int)) rfl (by kernel_rfl) (fun _ _ _ h => h) trivial (Or.inl ⟨by kernel_rfl, fun W' hW => by go_simp⟩) ?_
      refine wpAnyT_take (i := 12) (v := .bool true) rfl (by kernel_rfl) (fun _ _ _ h => h) trivial (Or.inl ⟨by kernel_rfl, fun W' hW => by go_simp⟩) ?_
      refine wpAnyT_take (i := 13) (v := .bool true) rfl (by kernel_rfl) (fun _ _ _ h => h) trivial (Or.inl ⟨rfl, fun W' hW => by go_simp⟩) ?_
      refine wpAnyT_take (i := 14) (v := .bool true) rfl (by kernel_rfl) (fun _ _ _ h => h) trivial (Or.inl ⟨rfl, fun W' hW => by go_simp⟩) ?_
      refine wpAnyT_take (i := 15) (v := .slice A7 kq c7) rfl (by kernel_rfl) (fun _ _ _ h => h) trivial (Or.inl ⟨by kernel_rfl, fun W' hW => by go_simp⟩) ?_
      refine wpAnyT_take (i := 16) (v := .slice A8 kq c8) rfl (by kernel_rfl) (fun _ _ _ h => h) trivial (Or.inl ⟨by kernel_rfl, fun W' hW => by go_simp⟩) ?_
      refine wpAnyT_stepg 17 rfl (by decide +kernel) (by kernel_rfl) ?_
      go_wp2_with fail
      refine (same_any A7 A8 kq kq c7 c8 Q Q _ hs710 hs810 hkqb).mono ?_
      rintro e w11 ⟨rfl, u3, rfl⟩
      rw [show (Q == Q) = true by simp]
      have hbw11 := Below.drewN' hbw10 u3
      have hs711 : SegL (w10.drewN u3) A7 kq Q := hs710
      clear hbw10 hs710 hs810
      generalize w10.drewN u3 = w11 at *
      have djq : decide ((j : Int) ≤ (kq : Int)) = true := decide_eq_true (by omega)
      have hjc7 : j ≤ c7 := by omega
      go_wp2_with fail
      refine ⟨.inr trivial, ?_⟩
      refine wpAnyT_take (i := 18) (v := .bool true) rfl (by kernel_rfl) (fun _ _ _ h => h) trivial (Or.inl ⟨rfl, fun W' hW => by go_simp⟩) ?_
      refine wpAnyT_take (i := 19) (v := .bool true) rfl (by kernel_rfl) (fun _ _ _ h => h) trivial (Or.inl ⟨rfl, fun W' hW => by go_simp⟩) ?_
      refine wpAnyT_take (i := 20) (v := .int .u8 (t : Int)) rfl (by kernel_rfl) (fun _ _ _ h => h) trivial (Or.inl ⟨by kernel_rfl, fun W' hW => by go_simp⟩) ?_
      by_cases ht0 : t = 0
      · have dt : decide ((t : Int) = 0) = true := decide_eq_true (by omega)
        have dt2 : ((t : Int) == 0) = true := by simp; omega
        clear HQ HKQ HQT HFD HCM HLN HFL HF HSZ HS HSA HMM HY HML
        refine wpAnyT_take (i := 21) (v := .bool true) rfl (by kernel_rfl) (fun _ _ _ h => h) trivial (Or.inl ⟨by kernel_rfl, fun W' hW => by go_simp⟩) ?_
        refine wpAnyT_take (i := 22) (v := .bool true) rfl (by kernel_rfl) (fun _ _ _ h => h) trivial (Or.inl ⟨by kernel_rfl, fun W' hW => by go_simp⟩) ?_
        refine wpAnyT_take (i := 23) (v := undef) rfl (by kernel_rfl) (fun _ _ _ h => h) trivial (Or.inr ⟨by kernel_rfl, rfl⟩) ?_
        refine wpAnyT_take (i := 24) (v := undef) rfl (by kernel_rfl) (fun _ _ _ h => h) trivial (Or.inr ⟨by kernel_rfl, rfl⟩) ?_
        refine wpAnyT_take (i := 25) (v := undef) rfl (by kernel_rfl) (fun _ _ _ h => h) trivial (Or.inr ⟨by kernel_rfl, rfl⟩) ?_
        refine wpAnyT_take (i := 26) (v := undef) rfl (by kernel_rfl) (fun _ _ _ h => h) trivial (Or.inr ⟨by kernel_rfl, rfl⟩) ?_
        refine wpAnyT_take (i := 27) (v := undef) rfl (by kernel_rfl) (fun _ _ _ h => h) trivial (Or.inr ⟨by kernel_rfl, rfl⟩) ?_
        refine wpAnyT_take (i := 28) (v := undef) rfl (by kernel_rfl) (fun _ _ _ h => h) trivial (Or.inr ⟨by kernel_rfl, rfl⟩) ?_
        refine wpAnyT_take (i := 29) (v := undef) rfl (by kernel_rfl) (fun _ _ _ h => h) trivial (Or.inr ⟨by kernel_rfl, rfl⟩) ?_
        refine wpAnyT_take (i := 30) (v := undef) rfl (by kernel_rfl) (fun _ _ _ h => h) trivial (Or.inr ⟨by kernel_rfl, rfl⟩) ?_
        refine wpAnyT_take (i := 31) (v := undef) rfl (by kernel_rfl) (fun _ _ _ h => h) trivial (Or.inr ⟨by kernel_rfl, rfl⟩) ?_
        refine wpAnyT_take (i := 32) (v := undef) rfl (by kernel_rfl) (fun _ _ _ h => h) trivial (Or.inr ⟨by kernel_rfl, rfl⟩) ?_
        refine wpAnyT_take (i := 33) (v := undef) rfl (by kernel_rfl) (fun _ _ _ h => h) trivial (Or.inr ⟨by kernel_rfl, rfl⟩) ?_
        refine wpAnyT_take (i := 34) (v := undef) rfl (by kernel_rfl) (fun _ _ _ h => h) trivial (Or.inr ⟨by kernel_rfl, rfl⟩) ?_
        refine wpAnyT_take (i := 35) (v := undef) rfl (by kernel_rfl) (fun _ _ _ h => h) trivial (Or.inr ⟨by kernel_rfl, rfl⟩) ?_
        refine wpAnyT_take (i := 36) (v := .bool true) rfl (by kernel_rfl) (fun _ _ _ h => h) trivial (Or.inl ⟨by kernel_rfl, fun W' hW => by go_simp⟩) ?_
        refine wpAnyT_take (i := 37) (v := .bool true) rfl (by kernel_rfl) (fun _ _ _ h => h) trivial (Or.inl ⟨rfl, fun W' hW => by go_simp⟩) ?_
        refine wpAnyT_step 38 rfl (by decide +kernel) ?_
        go_wp2_with fail
        refine ⟨.inl trivial, ?_⟩
        refine wpAnyT_done (by decide +kernel) (NoPanic.normal ?_)
        go_wp2
        go_ret
        exact ⟨rfl, hbw11⟩
      · have dt : decide ((t : Int) = 0) = false := decide_eq_false (by omega)
        have dt2 : ((t : Int) == 0) = false := by simp; omega
        have hLj : SegL w11 A j M := by
          have := (ha.below hbw11).upto j (by omega)
          rw [HMM.out] at this
          exact this
        have hQj : SegL w11 A7 j M := by
          have := hs711.upto j hjq
          rw [HQT.out] at this
          exact this
        refine wpAnyT_take (i := 21) (v := .bool false) rfl (by kernel_rfl) (fun _ _ _ h => h) trivial (Or.inl ⟨by kernel_rfl, fun W' hW => by go_simp⟩) ?_
        refine wpAnyT_take (i := 22) (v := .bool false) rfl (by kernel_rfl) (fun _ _ _ h => h) trivial (Or.inl ⟨by kernel_rfl, fun W' hW => by go_simp⟩) ?_
        refine wpAnyT_take (i := 23) (v := .slice A7 kq c7) rfl (by kernel_rfl) (fun _ _ _ h => h) trivial (Or.inl ⟨by kernel_rfl, fun W' hW => by go_simp⟩) ?_
        refine wpAnyT_take (i := 24) (v := .int .i64 (kq : Int)) rfl (by kernel_rfl) (fun _ _ _ h => h) trivial (Or.inl ⟨by kernel_rfl, fun W' hW => by go_simp⟩) ?_
        refine wpAnyT_take (i := 25) (v := .int .i64 (j : Int)) rfl (by kernel_rfl) (fun _ _ _ h => h) trivial (Or.inl ⟨by kernel_rfl, fun W' hW => by go_simp⟩) ?_
        refine wpAnyT_take (i := 26) (v := .bool true) rfl (by kernel_rfl) (fun _ _ _ h => h) trivial (Or.inl ⟨by kernel_rfl, fun W' hW => by go_simp⟩) ?_
        refine wpAnyT_take (i := 27) (v := .bool true) rfl (by kernel_rfl) (fun _ _ _ h => h) trivial (Or.inl ⟨by kernel_rfl, fun W' hW => by go_simp⟩) ?_
        refine wpAnyT_take (i := 28) (v := .slice A7 kq c7) rfl (by kernel_rfl) (fun _ _ _ h => h) trivial (Or.inl ⟨by kernel_rfl, fun W' hW => by go_simp⟩) ?_
        refine wpAnyT_take (i := 29) (v := .int .i64 (j : Int)) rfl (by kernel_rfl) (fun _ _ _ h => h) trivial (Or.inl ⟨by kernel_rfl, fun W' hW => by go_simp⟩) ?_
        refine wpAnyT_take (i := 30) (v := .slice A7 j c7) rfl (by kernel_rfl) (fun _ _ _ h => h) trivial (Or.inl ⟨by kernel_rfl, fun W' hW => by go_simp⟩) ?_
        refine wpAnyT_take (i := 31) (v := .slice A n c) rfl (by kernel_rfl) (fun _ _ _ h => h) trivial (Or.inl ⟨by kernel_rfl, fun W' hW => by go_simp⟩) ?_
        refine wpAnyT_take (i := 32) (v := .int .i64 (j : Int)) rfl (by kernel_rfl) (fun _ _ _ h => h) trivial (Or.inl ⟨by kernel_rfl, fun W' hW => by go_simp⟩) ?_
        refine wpAnyT_take (i := 33) (v := .slice A j c) rfl (by kernel_rfl) (fun _ _ _ h => h) trivial (Or.inl ⟨by kernel_rfl, fun W' hW => by go_simp⟩) ?_
        refine wpAnyT_stepg 34 rfl (by decide +kernel) (by kernel_rfl) ?_
        go_wp2_with fail
        refine (same_any A7 A j j c7 c M M _ hQj hLj (by omega)).mono ?_
        rintro e w12 ⟨rfl, u4, rfl⟩
        rw [show (M == M) = true by simp]
        have hbw12 := Below.drewN' hbw11 u4
        clear hbw11 hs711 hLj hQj
        generalize w11.drewN u4 = w12 at *
        clear HQ HKQ HQT HFD HCM HLN HFL HF HSZ HS HSA HMM HY HML
        go_wp2_with fail
        refine ⟨.inr trivial, ?_⟩
        refine wpAnyT_take (i := 35) (v := .bool true) rfl (by kernel_rfl) (fun _ _ _ h => h) trivial (Or.inl ⟨by kernel_rfl, fun W' hW => by go_simp⟩) ?_
        refine wpAnyT_take (i := 36) (v := .bool true) rfl (by kernel_rfl) (fun _ _ _ h => h) trivial (Or.inl ⟨by kernel_rfl, fun W' hW => by go_simp⟩) ?_
        refine wpAnyT_take (i := 37) (v := .bool true) rfl (by kernel_rfl) (fun _ _ _ h => h) trivial (Or.inl ⟨rfl, fun W' hW => by go_simp⟩) ?_
        refine wpAnyT_step 38 rfl (by decide +kernel) ?_
        go_wp2_with fail
        refine ⟨.inl trivial, ?_⟩
        refine wpAnyT_done (by decide +kernel) (NoPanic.normal ?_)
        go_wp2
        go_ret
        exact ⟨rfl, hbw12⟩

set_option maxRecDepth 8000 in
set_option maxHeartbeats 4000000 in
theorem walTorn_none (A : Option Addr) (n c : Nat) (L : List (List UInt8)) (at_ t : Nat) (w : World) (ha : SegL w A n L) (hc : n ≤ c) (hcm : c ≤ maxLen) (hS : Small L) (hN : (allL L).length = 0) (ht : Tab w) :
    Calls Tryd.prog 5 #[.slice A n c, .int .u16 (at_ : Int), .int .u8 (t : Int)] w fun e w' => e = .returned (.bool true) ∧ Below w.heap.size w w' := by
  have HN := Lib.hid hN
  have HS := Lib.hid hS
  clear hN hS
  go_enter Tryd.func5, Tryd.ntmps5
  go_wp2_with fail
  refine (both_any _ ht).mono ?_
  rintro e w1 ⟨rfl, hb1⟩
  go_wp2_with fail
  refine (small_any A n c L _ (ha.below hb1) hc hcm).mono ?_
  rintro e w0 ⟨⟨b, rfl, hb⟩, rfl⟩
  obtain rfl : b = true := hb.2 HS.out
  clear hb
  go_wp2_with fail
  refine (all_any A n c L _ (ha.below hb1) HS.out).mono ?_
  rintro e w2 ⟨v2, rfl, ho2, hb2⟩
  have hbw2 := Below.next' hb1 hb2 hb1.size
  obtain ⟨A2, c2, rfl, _, _, _⟩ := ho2.forms
  rw [HN.out]
  go_wp2
  go_ret
  exact ⟨rfl, hbw2⟩

set_option maxRecDepth 8000 in
set_option maxHeartbeats 4000000 in
theorem walTorn_long (A : Option Addr) (n c : Nat) (L : List (List UInt8)) (at_ t : Int) (w : World) (ha : SegL w A n L) (hc : n ≤ c) (hcm : c ≤ maxLen) (hS : ¬ Small L) (ht : Tab w) :
    Calls Tryd.prog 5 #[.slice A n c, .int .u16 at_, .int .u8 t] w fun e w' => e = .returned (.bool true) ∧ Below w.heap.size w w' := by
  go_enter Tryd.func5, Tryd.ntmps5
  go_wp2_with fail
  refine (both_any _ ht).mono ?_
  rintro e w1 ⟨rfl, hb1⟩
  go_wp2_with fail
  refine (small_any A n c L _ (ha.below hb1) hc hcm).mono ?_
  rintro e w0 ⟨⟨b, rfl, hb⟩, rfl⟩
  obtain rfl : b = false := by
    rcases b with _ | _
    · rfl
    · exact absurd (hb.1 rfl) hS
  clear hb
  go_wp2_with fail
  refine (both_any _ (Tab.below ht hb1)).mono ?_
  rintro e w2 ⟨rfl, hb2⟩
  go_wp2
  go_ret
  exact ⟨rfl, Below.next' hb1 hb2 hb1.size⟩

theorem walTorn_walk (A : Option Addr) (n c : Nat) (L : List (List UInt8)) (x y : Int) (w : World) (ha : SegL w A n L) (hc : n ≤ c) (hcm : c ≤ maxLen) (hx : (Lit.int .u16 x).wf = true) (hy : (Lit.int .u8 y).wf = true) (ht : Tab w) :
    Calls Tryd.prog 5 #[.slice A n c, .int .u16 x, .int .u8 y] w fun e w' => e = .returned (.bool true) ∧ Below w.heap.size w w' := by
  by_cases hS : Small L
  · obtain ⟨k, rfl⟩ := Int.eq_ofNat_of_zero_le (bounds_u16 hx).1
    have h1 := (bounds_u16 hx).2
    obtain ⟨t, rfl⟩ := Int.eq_ofNat_of_zero_le (bounds_u8 hy).1
    have h2 := (bounds_u8 hy).2
    by_cases h0 : (allL L).length = 0
    · exact walTorn_none A n c L k t w ha hc hcm hS h0 ht
    · exact walTorn_core A n c L k t _ w ha hc hcm hS (by omega) (by omega) rfl (by omega) ht
  · exact walTorn_long A n c L x y w ha hc hcm hS ht

end Go.Proofs.YtkmcnkonkalfkaaDoor
