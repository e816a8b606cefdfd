/-
  The walk of the law TrieOne.
-/
import Derived.Test.YtpbjianhkjjgkaaDoorYBL6s
namespace Go.Proofs.YtpbjianhkjjgkaaDoor
open Go.RowKit

set_option maxRecDepth 8000 in
set_option maxHeartbeats 64000000 in
theorem trieOne_core (A : Option Addr) (n c : Nat) (L : List TAct) (B : Option Addr) (p d : Nat) (M : List TAct) (w : World) (ha : SegTA w A n L) (hnc : n ≤ c) (hcm : c ≤ maxLen) (hb' : SegTA w B p M) (hpd : p ≤ d) (hdm : d ≤ maxLen) (hsm : SmallA 40 L) (hsn : SmallA 40 M) (ht : Tab w) :
    Calls Tryd.prog 4 #[.slice A n c, .slice B p d] w fun e w' => e = .returned (.bool true) ∧ Below w.heap.size w w' := by
  have hI := madeI_its L
  have hJ := madeI_its M
  have hrw := madeI_row hsm
  have hrx := madeI_row hsn
  have h24 := madeI_24 L
  have HMA := Lib.hid (fun W (h : Below w.heap.size w W) => made09_any A n c L W (ha.below h) hcm hnc hsm.1 (Tab.below ht h))
  have HMB := Lib.hid (fun W (h : Below w.heap.size w W) => made09_any B p d M W (hb'.below h) hdm hpd hsn.1 (Tab.below ht h))
  have HSM := Lib.hid (fun W (h : Below w.heap.size w W) => small09_any A n c L true W (ha.below h) hcm hnc ⟨fun _ => hsm, fun _ => rfl⟩)
  have HSN := Lib.hid (fun W (h : Below w.heap.size w W) => small09_any B p d M true W (hb'.below h) hdm hpd ⟨fun _ => hsn, fun _ => rfl⟩)
  obtain ⟨m, hmm⟩ : ∃ m, madeI L = m := ⟨_, rfl⟩
  obtain ⟨q, hqq⟩ : ∃ q, madeI M = q := ⟨_, rfl⟩
  simp only [hmm] at HMA hI hrw h24
  simp only [hqq] at HMB hJ hrx
  have hpl := hb'.len
  have hp40 : p ≤ 40 := by have := hsn.2; omega
  have hMk : ∀ x ∈ M, x.k < 256 := fun x hx => by
    obtain ⟨j, hj, e⟩ := List.getElem_of_mem hx
    obtain ⟨g, o, B', m', c', _, _, _, _, _, _, _, h⟩ := hb'.at_ (show j < p by omega) x e
    exact h
  have HGONE := Lib.hid (x_gone hI h24 M hMk)
  have HPI := Lib.hid (fun j => xPut_its (M.take j) (fun x hx => hMk x (List.mem_of_mem_take hx)) m hI)
  have HDI := Lib.hid (fun j => xDel_its (M.take j) (M.foldl xPut m) (xPut_its M hMk m hI))
  have HPS := Lib.hid (fun j (h : j < M.length) => fold_succ xPut m M j h)
  have HDS := Lib.hid (fun j (h : j < M.length) => fold_succ xDel (M.foldl xPut m) M j h)
  have HB := Lib.hid (fun W (h : Below w.heap.size w W) => hb'.below h)
  have HROW := Lib.hid (fun j (h : j < M.length) => hsn.1 M[j] (List.getElem_mem h))
  have HI := Lib.hid hI
  have HJ := Lib.hid hJ
  have HRW := Lib.hid hrw
  have HRX := Lib.hid hrx
  have hml := its_len hI
  have hmn := its_len hJ
  clear hmm hqq hsm hsn hrw hrx hI hJ ha hb' hnc h24 hMk hpd
  go_enter Tryd.func4, Tryd.ntmps4
  go_wp2_with fail
  refine (back_any _ ht).mono ?_
  rintro e w1 ⟨rfl, hb1⟩
  go_wp2_with fail
  refine (HSM.out _ hb1).mono ?_
  rintro e w2 ⟨rfl, rfl⟩
  go_wp2_with fail
  refine (HSN.out _ hb1).mono ?_
  rintro e w3 ⟨rfl, rfl⟩
  go_wp2_with fail
  refine (HMA.out _ hb1).mono ?_
  rintro e w4 ⟨tv, sv, S, rfl, hp, hso, hsi, hb4⟩
  have hb := Below.next' hb1 hb4 hb1.size
  obtain ⟨tq, rfl⟩ := hp.ptr
  obtain ⟨SA, sc, rfl, hsg, _, _⟩ := hso.forms
  have hsl := hsi.len
  have hsc : S.length ≤ 280 := by omega
  have HW4 := Lib.hid (And.intro hp (And.intro hsg hsi))
  have hwrS : IntKind.i64.wrap ((S.length : Int) - 1) = (S.length : Int) - 1 := IntWalk.i64_in _ (by omega)
  have HSL := Lib.hid hsl
  clear hso hb1 hb4 HSM HSN HMA hp hsg hsi hsl
  go_wp2_with fail
  go_loopw [7, 8] (fun ov iv w' => ∃ j : Nat, j ≤ S.length ∧ iv = .int .i64 ((j : Int) - 1) ∧ TreeAt w' (tree 256 (m.drop j) 0) ov ∧ Below w4.heap.size w4 w') (fun _ iv _ => (intOf iv + 1).toNat)
  case atStart => exact ⟨S.length, by omega, rfl, by rw [List.drop_of_length_le (by have := HSL.out; omega)]; rw [tree_nil]; rfl, Below.refl _ _⟩
  case round =>
    obtain ⟨j, hj, rfl, hp, hb4⟩ := hrel
    obtain ⟨oq, rfl⟩ := hp.ptr
    have hbw := Below.next' hb hb4 hb.size
    rename World => wl
    by_cases hj0 : 0 < j
    · obtain ⟨i, rfl⟩ : ∃ i, j = i + 1 := ⟨j - 1, by omega⟩
      have hji : (((i + 1 : Nat)) : Int) - 1 = (i : Int) := by omega
      rw [hji]
      have h1 : i < S.length := by omega
      have h2 : i < m.length := by have := HSL.out; omega
      have hdp := drop_put HI.out i h2
      have hit := ItsAt.at_ HW4.out.2.2 i h1 h2
      have hmx := List.getElem_mem h2
      obtain ⟨g, o, hSA, hc⟩ := HW4.out.2.1.at_ h1
      subst hSA
      obtain ⟨s, hs⟩ : ∃ s, S[i]'h1 = s := ⟨_, rfl⟩
      obtain ⟨x, hx⟩ : ∃ x, m[i]'h2 = x := ⟨_, rfl⟩
      have c0 := hc 0 (.string s.s) (by rw [hs]; rfl)
      have c1 := hc 1 (.slice s.A s.n s.c) (by rw [hs]; rfl)
      rw [hs, hx] at hit
      rw [hx] at hdp hmx
      have hxd := HI.out.2 x hmx
      have hxr := HRW.out x hmx
      obtain ⟨hxk, hxs, hxn, hxc⟩ := hit
      rw [show itLay.z = 2 from rfl] at c0 c1
      rw [Nat.add_zero] at c0
      rw [hxk] at c0
      have c0 := cell_below hb4 c0
      have c1 := cell_below hb4 c1
      have hxs := hxs.below hb4
      obtain ⟨xu, xl⟩ := x
      obtain ⟨es, eA, en, ec⟩ := s
      dsimp only at *
      have hen := hxs.1
      clear hc hs hx hmx hxk
      have HDP := Lib.hid hdp
      have HT := Lib.hid (fun W (h1 : TreeAt W (tree 256 (m.drop (i + 1)) 0) (.pointer oq)) (h2 : Seg W eA en xl) (h3 : Tab W) => tput_any (m.drop (i + 1)) xu xl _ eA en ec W (HI.out.drop _) hxd h1 h2 (by omega) h3)
      obtain ⟨KX, hKX⟩ : ∃ KX, keyOf xu = KX := ⟨_, rfl⟩
      rw [hKX] at c0 HT
      clear hKX hdp
      have hge : decide ((0 : Int) ≤ (i : Int)) = true := decide_eq_true (by omega)
      have hwr : IntKind.i64.wrap ((i : Int) - 1) = (i : Int) - 1 := IntWalk.i64_in _ (by omega)
      go_wp2
      refine wp_region_noPanic (wp_region_tills (fun W' => W'.cell? ⟨g, o + i * 2, none⟩ = some (.string KX) ∧ W'.cell? ⟨g, o + i * 2 + 1, none⟩ = some (.slice eA en ec)) (fun j => decide (12 ≤ j)) (by kernel_rfl) ?_)
      have hD := belD wl 1
      have c0 := cell_below hD c0
      have c1 := cell_below hD c1
      have hp := hp.below hD
      have hxs := hxs.below hD
      have hb4 := Below.next' hb4 hD hb4.size
      have hbw := Below.next' hbw hD hbw.size
      change wpAnyS _ _ _ _ _ _ 13 _ _ (wl.drewN 1)
      generalize wl.drewN 1 = w5 at *
      refine wpAnyS_take (i := 0) (v := .pointer oq) rfl (by kernel_rfl) (fun _ _ _ h => h) ⟨c0, c1⟩ (Or.inl ⟨rfl, fun W' hW => by obtain ⟨q0, q1⟩ := hW; go_simp⟩) ?_
      refine wpAnyS_take (i := 1) (v := .slice (some ⟨g, o, none⟩) S.length sc) rfl (by kernel_rfl) (fun _ _ _ h => h) ⟨c0, c1⟩ (Or.inl ⟨rfl, fun W' hW => by obtain ⟨q0, q1⟩ := hW; go_simp⟩) ?_
      refine wpAnyS_take (i := 2) (v := .int .i64 (i : Int)) rfl (by kernel_rfl) (fun _ _ _ h => h) ⟨c0, c1⟩ (Or.inl ⟨rfl, fun W' hW => by obtain ⟨q0, q1⟩ := hW; go_simp⟩) ?_
      refine wpAnyS_take (i := 3) (v := .pointer (some ⟨g, o + i * 2, none⟩)) rfl (by kernel_rfl) (fun _ _ _ h => h) ⟨c0, c1⟩ (Or.inl ⟨rfl, fun W' hW => by obtain ⟨q0, q1⟩ := hW; go_simp⟩) ?_
      refine wpAnyS_take (i := 4) (v := .pointer (some ⟨g, o + i * 2, none⟩)) rfl (by kernel_rfl) (fun _ _ _ h => h) ⟨c0, c1⟩ (Or.inl ⟨rfl, fun W' hW => by obtain ⟨q0, q1⟩ := hW; go_simp⟩) ?_
      refine wpAnyS_take (i := 5) (v := .string KX) rfl (by kernel_rfl) (fun _ _ _ h => h) ⟨c0, c1⟩ (Or.inl ⟨rfl, fun W' hW => by obtain ⟨q0, q1⟩ := hW; go_simp⟩) ?_
      refine wpAnyS_take (i := 6) (v := .slice (some ⟨g, o, none⟩) S.length sc) rfl (by kernel_rfl) (fun _ _ _ h => h) ⟨c0, c1⟩ (Or.inl ⟨rfl, fun W' hW => by obtain ⟨q0, q1⟩ := hW; go_simp⟩) ?_
      refine wpAnyS_take (i := 7) (v := .int .i64 (i : Int)) rfl (by kernel_rfl) (fun _ _ _ h => h) ⟨c0, c1⟩ (Or.inl ⟨rfl, fun W' hW => by obtain ⟨q0, q1⟩ := hW; go_simp⟩) ?_
      refine wpAnyS_take (i := 8) (v := .pointer (some ⟨g, o + i * 2, none⟩)) rfl (by kernel_rfl) (fun _ _ _ h => h) ⟨c0, c1⟩ (Or.inl ⟨rfl, fun W' hW => by obtain ⟨q0, q1⟩ := hW; go_simp⟩) ?_
      refine wpAnyS_take (i := 9) (v := .pointer (some ⟨g, o + i * 2 + 1, none⟩)) rfl (by kernel_rfl) (fun _ _ _ h => h) ⟨c0, c1⟩ (Or.inl ⟨rfl, fun W' hW => by obtain ⟨q0, q1⟩ := hW; go_simp⟩) ?_
      refine wpAnyS_take (i := 10) (v := .slice eA en ec) rfl (by kernel_rfl) (fun _ _ _ h => h) ⟨c0, c1⟩ (Or.inl ⟨rfl, fun W' hW => by obtain ⟨q0, q1⟩ := hW; go_simp⟩) ?_
      refine wpAnyS_step 11 rfl (by decide +kernel) ?_
      go_wp2_with fail
      refine (HT.out _ hp hxs (Tab.below ht hbw)).mono ?_
      rintro e6 w6 ⟨u6, rfl, hu, hb6⟩
      obtain ⟨uq, rfl⟩ := hu.ptr
      have hb4 := Below.next' hb4 hb6 hb4.size
      have c0 := cell_below hb6 c0
      have c1 := cell_below hb6 c1
      clear hb6 HT hp hxs hbw hD
      go_wp2_with fail
      refine ⟨.inr ⟨c0, c1⟩, ?_⟩
      refine wpAnyS_step 12 rfl (by decide +kernel) ?_
      go_wp2_with fail
      refine ⟨.inl rfl, ?_⟩
      refine wpAnyS_done (by decide +kernel) (NoPanic.normal ?_)
      go_wp2
      go_roundw
      case rel => exact ⟨i, by omega, rfl, by rw [← HDP.out]; exact hu, hb4⟩
      case measure => simp [intOf] <;> omega
    · obtain rfl : j = 0 := by omega
      have hge : decide ((0 : Int) ≤ -1) = false := by decide
      rw [show (((0 : Nat)) : Int) - 1 = -1 from rfl]
      rw [List.drop_zero] at hp
      go_wp2_with fail
      go_loopw [7, 9] (fun ov iv w' => ∃ j : Nat, j ≤ p ∧ iv = .int .i64 (j : Int) ∧ TreeAt w' (tree 256 ((M.take j).foldl xPut m) 0) ov ∧ Below w4.heap.size w4 w') (fun _ iv _ => p - (intOf iv).toNat)
      case atStart => exact ⟨0, by omega, rfl, hp, hb4⟩
      case round =>
        clear hp hb4 hbw hge
        obtain ⟨j, hj, rfl, hp, hb4⟩ := hrel
        obtain ⟨oq, rfl⟩ := hp.ptr
        have hbw := Below.next' hb hb4 hb.size
        rename World => wl
        by_cases hlt : j < p
        · have hjl : j < M.length := by omega
          have hst := HPS.out j hjl
          have hrow := HROW.out j hjl
          have hits := HPI.out j
          obtain ⟨x, hx⟩ : ∃ x, M[j]'hjl = x := ⟨_, rfl⟩
          obtain ⟨g, o, Br, rn, rc, rfl, c0, c1, c2, hsB, hmc, hcmm, hxk⟩ := (HB.out _ hbw).at_ hlt x hx
          rw [hx] at hst hrow
          obtain ⟨xb, xk, l⟩ := x
          dsimp only at *
          clear hx c0
          obtain ⟨R, hR⟩ : ∃ R, (M.take j).foldl xPut m = R := ⟨_, rfl⟩
          rw [hR] at hst hits hp
          have hrl := hsB.1
          have hst2 : (M.take (j + 1)).foldl xPut m = putI R (24 + xk) l := hst
          have HST := Lib.hid hst2
          have HT := Lib.hid (fun W (h1 : TreeAt W (tree 256 R 0) (.pointer oq)) (h2 : Seg W Br rn l) (h3 : Tab W) => tput_any R (24 + xk) l _ Br rn rc W hits (by omega) h1 h2 (by omega) h3)
          have kc := fun W => run_kx W xk hxk
          obtain ⟨KX, hKX⟩ : ∃ KX, keyOf (24 + xk) = KX := ⟨_, rfl⟩
          simp only [hKX] at kc HT
          clear hKX hst hst2 hits hR
          go_wp2
          refine wp_region_noPanic (wp_region_tills (fun W' => W'.cell? ⟨g, o + j * 3 + 1, none⟩ = some (.int .u8 (xk : Int)) ∧ W'.cell? ⟨g, o + j * 3 + 2, none⟩ = some (.slice Br rn rc)) (fun jj => decide (14 ≤ jj)) (by kernel_rfl) ?_)
          have hD := belD wl 1
          have c1 := cell_below hD c1
          have c2 := cell_below hD c2
          have hp := hp.below hD
          have hsB := hsB.below hD
          have hb4 := Below.next' hb4 hD hb4.size
          have hbw := Below.next' hbw hD hbw.size
          change wpAnyS _ _ _ _ _ _ 15 _ _ (wl.drewN 1)
          clear hD
          generalize wl.drewN 1 = w5 at *
          refine wpAnyS_take (i := 0) (v := .pointer oq) rfl (by kernel_rfl) (fun _ _ _ h => h) ⟨c1, c2⟩ (Or.inl ⟨rfl, fun W' hW => by obtain ⟨q0, q1⟩ := hW; go_simp⟩) ?_
          refine wpAnyS_take (i := 1) (v := .slice (some ⟨g, o, none⟩) p d) rfl (by kernel_rfl) (fun _ _ _ h => h) ⟨c1, c2⟩ (Or.inl ⟨rfl, fun W' hW => by obtain ⟨q0, q1⟩ := hW; go_simp⟩) ?_
          refine wpAnyS_take (i := 2) (v := .int .i64 (j : Int)) rfl (by kernel_rfl) (fun _ _ _ h => h) ⟨c1, c2⟩ (Or.inl ⟨rfl, fun W' hW => by obtain ⟨q0, q1⟩ := hW; go_simp⟩) ?_
          refine wpAnyS_take (i := 3) (v := .pointer (some ⟨g, o + j * 3, none⟩)) rfl (by kernel_rfl) (fun _ _ _ h => h) ⟨c1, c2⟩ (Or.inl ⟨rfl, fun W' hW => by obtain ⟨q0, q1⟩ := hW; go_simp⟩) ?_
          refine wpAnyS_take (i := 4) (v := .pointer (some ⟨g, o + j * 3 + 1, none⟩)) rfl (by kernel_rfl) (fun _ _ _ h => h) ⟨c1, c2⟩ (Or.inl ⟨rfl, fun W' hW => by obtain ⟨q0, q1⟩ := hW; go_simp⟩) ?_
          refine wpAnyS_take (i := 5) (v := .int .u8 (xk : Int)) rfl (by kernel_rfl) (fun _ _ _ h => h) ⟨c1, c2⟩ (Or.inl ⟨rfl, fun W' hW => by obtain ⟨q0, q1⟩ := hW; go_simp⟩) ?_
          refine wpAnyS_take (i := 8) (v := .slice (some ⟨g, o, none⟩) p d) rfl (by kernel_rfl) (fun _ _ _ h => h) ⟨c1, c2⟩ (Or.inl ⟨rfl, fun W' hW => by obtain ⟨q0, q1⟩ := hW; go_simp⟩) ?_
          refine wpAnyS_take (i := 9) (v := .int .i64 (j : Int)) rfl (by kernel_rfl) (fun _ _ _ h => h) ⟨c1, c2⟩ (Or.inl ⟨rfl, fun W' hW => by obtain ⟨q0, q1⟩ := hW; go_simp⟩) ?_
          refine wpAnyS_take (i := 10) (v := .pointer (some ⟨g, o + j * 3, none⟩)) rfl (by kernel_rfl) (fun _ _ _ h => h) ⟨c1, c2⟩ (Or.inl ⟨rfl, fun W' hW => by obtain ⟨q0, q1⟩ := hW; go_simp⟩) ?_
          refine wpAnyS_take (i := 11) (v := .pointer (some ⟨g, o + j * 3 + 2, none⟩)) rfl (by kernel_rfl) (fun _ _ _ h => h) ⟨c1, c2⟩ (Or.inl ⟨rfl, fun W' hW => by obtain ⟨q0, q1⟩ := hW; go_simp⟩) ?_
          refine wpAnyS_take (i := 12) (v := .slice Br rn rc) rfl (by kernel_rfl) (fun _ _ _ h => h) ⟨c1, c2⟩ (Or.inl ⟨rfl, fun W' hW => by obtain ⟨q0, q1⟩ := hW; go_simp⟩) ?_
          refine wpAnyS_step 6 rfl (by decide +kernel) ?_
          have hal := (Below.refl w5.heap.size w5).alloc (Nat.le_refl _) (.cells #[.int .u8 120, .int .u8 (xk : Int)] 5)
          have c1 := cell_below hal c1
          have c2 := cell_below hal c2
          have HW := Lib.hid (And.intro (hp.below hal) (And.intro (hsB.below hal) (And.intro (Below.next' hb4 hal hb4.size) (Below.next' hbw hal hbw.size))))
          clear hp hsB hb4 hbw hal
          go_wp2_with fail
          refine ⟨.inr ⟨c1, c2⟩, ?_⟩
          refine wpAnyS_step 7 rfl (by decide +kernel) ?_
          go_wp2_with fail
          refine ⟨.inr ⟨c1, c2⟩, ?_⟩
          refine wpAnyS_step 13 rfl (by decide +kernel) ?_
          obtain ⟨hp, hsB, hb4, hbw⟩ := HW.out
          clear HW kc
          generalize w5.alloc (.cells #[.int .u8 120, .int .u8 (xk : Int)] 5) = w6 at *
          go_wp2_with fail
          refine (HT.out _ hp hsB (Tab.below ht hbw)).mono ?_
          rintro e7 w7 ⟨u7, rfl, hu, hb7⟩
          obtain ⟨uq, rfl⟩ := hu.ptr
          have hb4 := Below.next' hb4 hb7 hb4.size
          have c1 := cell_below hb7 c1
          have c2 := cell_below hb7 c2
          clear hb7 HT hp hsB hbw
          go_wp2_with fail
          refine ⟨.inr ⟨c1, c2⟩, ?_⟩
          refine wpAnyS_step 14 rfl (by decide +kernel) ?_
          go_wp2_with fail
          refine ⟨.inl rfl, ?_⟩
          refine wpAnyS_done (by decide +kernel) (NoPanic.normal ?_)
          go_wp2
          go_roundw
          case rel => exact ⟨j + 1, hlt, by go_num, by rw [HST.out]; exact hu, hb4⟩
          case measure => simp [intOf]; omega
        · obtain rfl : j = p := by omega
          rw [List.take_of_length_le (by omega)] at hp
          go_wp2_with fail
          go_loopw [7, 10] (fun ov iv w' => ∃ i : Nat, i ≤ j ∧ iv = .int .i64 (i : Int) ∧ TreeAt w' (tree 256 ((M.take i).foldl xDel (M.foldl xPut m)) 0) ov ∧ Below w4.heap.size w4 w') (fun _ iv _ => j - (intOf iv).toNat)
          case atStart => exact ⟨0, by omega, rfl, hp, hb4⟩
          case round =>
            clear hp hb4 hbw
            obtain ⟨i, hi, rfl, hp, hb4⟩ := hrel
            obtain ⟨oq, rfl⟩ := hp.ptr
            have hbw := Below.next' hb hb4 hb.size
            rename World => wl
            by_cases hlt : i < j
            · have hjl : i < M.length := by omega
              have hst := HDS.out i hjl
              have hits := HDI.out i
              obtain ⟨x, hx⟩ : ∃ x, M[i]'hjl = x := ⟨_, rfl⟩
              obtain ⟨g, o, Br, rn, rc, rfl, c0, c1, c2, hsB, hmc, hcmm, hxk⟩ := (HB.out _ hbw).at_ hlt x hx
              rw [hx] at hst
              obtain ⟨xb, xk, l⟩ := x
              dsimp only at *
              clear hx c0 c2 hsB
              obtain ⟨R, hR⟩ : ∃ R, (M.take i).foldl xDel (M.foldl xPut m) = R := ⟨_, rfl⟩
              rw [hR] at hst hits hp
              have hst2 : (M.take (i + 1)).foldl xDel (M.foldl xPut m) = delI R (24 + xk) := hst
              have HST := Lib.hid hst2
              have HT := Lib.hid (fun W (h1 : TreeAt W (tree 256 R 0) (.pointer oq)) (h3 : Tab W) => tdel_any R (24 + xk) _ W hits (by omega) h1 h3)
              have kc := fun W => run_kx W xk hxk
              obtain ⟨KX, hKX⟩ : ∃ KX, keyOf (24 + xk) = KX := ⟨_, rfl⟩
              simp only [hKX] at kc HT
              have hal := (Below.refl wl.heap.size wl).alloc (Nat.le_refl _) (.cells #[.int .u8 120, .int .u8 (xk : Int)] 5)
              have HW := Lib.hid (And.intro (hp.below hal) (And.intro (Below.next' hb4 hal hb4.size) (Below.next' hbw hal hbw.size)))
              clear hKX hst hst2 hits hR hp hb4 hbw hal
              go_wp2_with fail
              obtain ⟨hp, hb4, hbw⟩ := HW.out
              clear HW kc
              generalize wl.alloc (.cells #[.int .u8 120, .int .u8 (xk : Int)] 5) = w6 at *
              refine (HT.out _ hp (Tab.below ht hbw)).mono ?_
              rintro e7 w7 ⟨u7, rfl, hu, hb7⟩
              obtain ⟨uq, rfl⟩ := hu.ptr
              have hb4 := Below.next' hb4 hb7 hb4.size
              clear hb7 HT hp hbw c1
              go_wp2
              go_roundw
              case rel => exact ⟨i + 1, hlt, by go_num, by rw [HST.out]; exact hu, hb4⟩
              case measure => simp [intOf]; omega
            · obtain rfl : i = j := by omega
              rw [List.take_of_length_le (by omega), HGONE.out] at hp
              have h4 := HW4.out
              have hXs := (tree 256 m 0).dig_size
              have hDM := fun W (h : Below w4.heap.size w4 W) => rdigest_any 256 m 0 SA S.length sc S W rfl (Good.root HI.out.1 HI.out.2) (by omega) (fun x hx => by have := HRW.out x hx; omega) (h4.2.1.below h) (h4.2.2.below h)
              have hTN := fun W (h : Below w4.heap.size w4 W) => tdig_any _ _ W (h4.1.below h) (Tab.below ht (Below.next' hb h hb.size))
              have hTO := fun W (h : Below wl.heap.size wl W) => tdig_any _ _ W (hp.below h) (Tab.below ht (Below.next' hbw h hbw.size))
              obtain ⟨X, hX⟩ : ∃ X : ByteArray, ⟨(tree 256 m 0).dig.toArray⟩ = X := ⟨_, rfl⟩
              rw [hX] at hDM hTN hTO
              have HX := Lib.hid hX
              have HDM := Lib.hid hDM
              have HTN := Lib.hid hTN
              have HTO := Lib.hid hTO
              have hXX : (X.toList == X.toList) = true := by simp
              clear hDM hTN hTO hX hp h4
              go_wp2_with fail
              refine (HMB.out _ hbw).mono ?_
              rintro e7 w7 ⟨tv7, sv7, S7, rfl, hp7, hso7, hsi7, hb7⟩
              obtain ⟨tq7, rfl⟩ := hp7.ptr
              obtain ⟨SA7, sc7, rfl, hsg7, _, _⟩ := hso7.forms
              have hl7 := hsi7.len
              have hb47 := Below.next' hb4 hb7 hb4.size
              have hbw7 := Below.next' hbw hb7 hbw.size
              have hSAME := fun W (h : Below w4.heap.size w4 W) (h2 : Below w7.heap.size w7 W) => rsame_any SA SA7 S.length S7.length sc sc7 S S7 m q W (HW4.out.2.1.below h) (hsg7.below h2) (HW4.out.2.2.below h) (hsi7.below h2) HI.out HJ.out (fun x hx => by have := HRW.out x hx; omega)
              have hDQ := fun W (h : Below w7.heap.size w7 W) => rdigest_any 256 q 0 SA7 S7.length sc7 S7 W rfl (Good.root HJ.out.1 HJ.out.2) (by omega) (fun x hx => by have := HRX.out x hx; omega) (hsg7.below h) (hsi7.below h)
              have hTP := fun W (h : Below w7.heap.size w7 W) => tdig_any _ _ W (hp7.below h) (Tab.below ht (Below.next' hbw7 h hbw7.size))
              obtain ⟨Y, hY⟩ : ∃ Y : ByteArray, ⟨(tree 256 q 0).dig.toArray⟩ = Y := ⟨_, rfl⟩
              rw [hY] at hDQ hTP
              have HXY := Lib.hid (fun (e : m = q) => show X = Y by rw [← HX.out, ← hY, e])
              have HSAME := Lib.hid hSAME
              have HDQ := Lib.hid hDQ
              have HTP := Lib.hid hTP
              have hs0 : S7.length ≤ 280 := by omega
              have hbl := hb7
              have hbm := Below.refl w7.heap.size w7
              clear hSAME hDQ hTP hY hp7 hso7 hsi7 hsg7 hb7 hb4 hbw hl7
              go_wp2_with fail
              refine (HTO.out _ hbl).mono ?_
              rintro e8 w8 ⟨rfl, hb8⟩
              have hb47 := Below.next' hb47 hb8 hb47.size
              have hbm := Below.next' hbm hb8 hbm.size
              clear hb8 hbl
              go_wp2_with fail
              refine (HTN.out _ hb47).mono ?_
              rintro e9 w9 ⟨rfl, hb9⟩
              have hb47 := Below.next' hb47 hb9 hb47.size
              have hbm := Below.next' hbm hb9 hbm.size
              clear hb9
              go_wp2_with fail
              refine (HTP.out _ hbm).mono ?_
              rintro e10 w10 ⟨rfl, hb10⟩
              have hb47 := Below.next' hb47 hb10 hb47.size
              have hbm := Below.next' hbm hb10 hbm.size
              clear hb10
              go_wp2_with fail
              refine (HTN.out _ hb47).mono ?_
              rintro e11 w11 ⟨rfl, hb11⟩
              have hb47 := Below.next' hb47 hb11 hb47.size
              have hbm := Below.next' hbm hb11 hbm.size
              clear hb11
              have hdm := HDM.out _ hb47
              rw [show ((0 : Nat) : Int) = 0 from rfl] at hdm
              have HDM1 := Lib.hid hdm
              clear hdm
              go_wp2_with fail
              refine HDM1.out.mono ?_
              rintro e12 w12 ⟨rfl, hb12⟩
              have hb47 := Below.next' hb47 hb12 hb47.size
              have hbm := Below.next' hbm hb12 hbm.size
              clear hb12 HDM1
              have hdq := HDQ.out _ hbm
              rw [show ((0 : Nat) : Int) = 0 from rfl] at hdq
              have HDQ1 := Lib.hid hdq
              clear hdq
              go_wp2_with fail
              refine HDQ1.out.mono ?_
              rintro e13 w13 ⟨rfl, hb13⟩
              have hb47 := Below.next' hb47 hb13 hb47.size
              have hbm := Below.next' hbm hb13 hbm.size
              clear hb13 HDQ1
              by_cases hXY : X = Y
              · have h1 : (X.toList == Y.toList) = true := by rw [hXY]; simp
                have h2 : (Y.toList == X.toList) = true := by rw [hXY]; simp
                clear hXY
                go_wp2_with fail
                refine (HSAME.out _ hb47 hbm).mono ?_
                rintro e14 w14 ⟨⟨bs, rfl, hbs⟩, hb14⟩
                have hb47 := Below.next' hb47 hb14 hb47.size
                have hbm := Below.next' hbm hb14 hbm.size
                clear hb14 hbs
                rcases bs with _ | _
                · go_wp2
                  go_ret
                  exact ⟨rfl, Below.next' hb hb47 hb.size⟩
                · go_wp2_with fail
                  refine (HTP.out _ hbm).mono ?_
                  rintro e15 w15 ⟨rfl, hb15⟩
                  have hb47 := Below.next' hb47 hb15 hb47.size
                  have hbm := Below.next' hbm hb15 hbm.size
                  clear hb15
                  go_wp2_with fail
                  refine (HTN.out _ hb47).mono ?_
                  rintro e16 w16 ⟨rfl, hb16⟩
                  have hb47 := Below.next' hb47 hb16 hb47.size
                  clear hb16
                  go_wp2
                  go_ret
                  exact ⟨rfl, Below.next' hb hb47 hb.size⟩
              · have h1 : (X.toList == Y.toList) = false := by
                  rw [beq_eq_false_iff_ne, ne_eq, toList_inj]
                  exact hXY
                have h2 : (Y.toList == X.toList) = false := by
                  rw [beq_eq_false_iff_ne, ne_eq, toList_inj]
                  exact fun e => hXY e.symm
                have HNE := Lib.hid hXY
                clear hXY
                go_wp2_with fail
                refine (HSAME.out _ hb47 hbm).mono ?_
                rintro e14 w14 ⟨⟨bs, rfl, hbs⟩, hb14⟩
                have hb47 := Below.next' hb47 hb14 hb47.size
                clear hb14
                rcases bs with _ | _
                · clear hbs
                  go_wp2
                  go_ret
                  exact ⟨rfl, Below.next' hb hb47 hb.size⟩
                · exact absurd (HXY.out (hbs rfl)) HNE.out

set_option maxRecDepth 8000 in
set_option maxHeartbeats 4000000 in
theorem trieOne_long (A : Option Addr) (n c : Nat) (L : List TAct) (B : Option Addr) (p d : Nat) (M : List TAct) (w : World) (ha : SegTA w A n L) (hnc : n ≤ c) (hcm : c ≤ maxLen) (hb' : SegTA w B p M) (hpd : p ≤ d) (hdm : d ≤ maxLen) (h : ¬ SmallA 40 L ∨ ¬ SmallA 40 M) (ht : Tab w) :
    Calls Tryd.prog 4 #[.slice A n c, .slice B p d] w fun e w' => e = .returned (.bool true) ∧ Below w.heap.size w w' := by
  by_cases hs : SmallA 40 L
  · have HSM := Lib.hid (fun W (h : Below w.heap.size w W) => small09_any A n c L true W (ha.below h) hcm hnc ⟨fun _ => hs, fun _ => rfl⟩)
    have hn := h.resolve_left (fun h => h hs)
    have HSN := Lib.hid (fun W (h : Below w.heap.size w W) => small09_any B p d M false W (hb'.below h) hdm hpd ⟨fun h => Bool.noConfusion h, fun h => absurd h hn⟩)
    clear ha h hs hb' hn
    go_enter Tryd.func4, Tryd.ntmps4
    go_wp2_with fail
    refine (back_any _ ht).mono ?_
    rintro e w1 ⟨rfl, hb1⟩
    go_wp2_with fail
    refine (HSM.out _ hb1).mono ?_
    rintro e w2 ⟨rfl, rfl⟩
    go_wp2_with fail
    refine (HSN.out _ hb1).mono ?_
    rintro e w3 ⟨rfl, rfl⟩
    go_wp2_with fail
    refine (back_any _ (Tab.below ht hb1)).mono ?_
    rintro e w4 ⟨rfl, hb4⟩
    go_wp2
    go_ret
    exact ⟨rfl, Below.next' hb1 hb4 hb1.size⟩
  · have HSM := Lib.hid (fun W (h : Below w.heap.size w W) => small09_any A n c L false W (ha.below h) hcm hnc ⟨fun h => Bool.noConfusion h, fun h => absurd h hs⟩)
    clear ha h hs hb'
    go_enter Tryd.func4, Tryd.ntmps4
    go_wp2_with fail
    refine (back_any _ ht).mono ?_
    rintro e w1 ⟨rfl, hb1⟩
    go_wp2_with fail
    refine (HSM.out _ hb1).mono ?_
    rintro e w2 ⟨rfl, rfl⟩
    go_wp2_with fail
    refine (back_any _ (Tab.below ht hb1)).mono ?_
    rintro e w4 ⟨rfl, hb4⟩
    go_wp2
    go_ret
    exact ⟨rfl, Below.next' hb1 hb4 hb1.size⟩

theorem trieOne_walk (A : Option Addr) (n c : Nat) (L : List TAct) (B : Option Addr) (p d : Nat) (M : List TAct) (w : World) (ha : SegTA w A n L) (hnc : n ≤ c) (hcm : c ≤ maxLen) (hb' : SegTA w B p M) (hpd : p ≤ d) (hdm : d ≤ maxLen) (ht : Tab w) :
    Calls Tryd.prog 4 #[.slice A n c, .slice B p d] w fun e w' => e = .returned (.bool true) ∧ Below w.heap.size w w' := by
  by_cases h : SmallA 40 L
  · by_cases h2 : SmallA 40 M
    · exact trieOne_core A n c L B p d M w ha hnc hcm hb' hpd hdm h h2 ht
    · exact trieOne_long A n c L B p d M w ha hnc hcm hb' hpd hdm (.inr h2) ht
  · exact trieOne_long A n c L B p d M w ha hnc hcm hb' hpd hdm (.inl h) ht

end Go.Proofs.YtpbjianhkjjgkaaDoor
