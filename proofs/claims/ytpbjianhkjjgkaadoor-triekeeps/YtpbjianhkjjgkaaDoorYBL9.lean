/-
  The walk of the law TrieKeeps.
-/
import Derived.Test.YtpbjianhkjjgkaaDoorYBL8
import Derived.Test.YtpbjianhkjjgkaaDoorYBL5
namespace Go.Proofs.YtpbjianhkjjgkaaDoor
open Go.RowKit

theorem fold_succT (m : List It) (L : List TAct) (j : Nat) (h : j < L.length) : (L.take (j + 1)).foldl stepI m = stepI ((L.take j).foldl stepI m) L[j] := by
  rw [List.take_succ_eq_append_getElem h, List.foldl_append]
  rfl

set_option maxRecDepth 8000 in
set_option maxHeartbeats 64000000 in
theorem trieKeeps_core (A : Option Addr) (n c : Nat) (L : List TAct) (B : Option Addr) (p d : Nat) (M : List TAct) (w : World) (ha : SegTA w A n L) (hnc : n ≤ c) (hcm : c ≤ maxLen) (hb' : SegTA w B p M) (hpd : p ≤ d) (hdm : d ≤ maxLen) (hsm : SmallA 40 L) (hsn : SmallA 40 M) (ht : Tab w) :
    Calls Tryd.prog 5 #[.slice A n c, .slice B p d] w fun e w' => e = .returned (.bool true) ∧ Below w.heap.size w w' := by
  have hI := madeI_its L
  have hrw := madeI_row hsm
  have HMA := Lib.hid (fun W (h : Below w.heap.size w W) => made09_any A n c L W (ha.below h) hcm hnc hsm.1 (Tab.below ht h))
  have HSM := Lib.hid (fun W (h : Below w.heap.size w W) => small09_any A n c L true W (ha.below h) hcm hnc ⟨fun _ => hsm, fun _ => rfl⟩)
  have HSN := Lib.hid (fun W (h : Below w.heap.size w W) => small09_any B p d M true W (hb'.below h) hdm hpd ⟨fun _ => hsn, fun _ => rfl⟩)
  obtain ⟨m, hmm⟩ : ∃ m, madeI L = m := ⟨_, rfl⟩
  simp only [hmm] at HMA hI hrw
  have hpl := hb'.len
  have hp40 : p ≤ 40 := by have := hsn.2; omega
  have HPI := Lib.hid (fun j => fold_its (M.take j) m hI)
  have HPS := Lib.hid (fun j (h : j < M.length) => fold_succT m M j h)
  have HB := Lib.hid (fun W (h : Below w.heap.size w W) => hb'.below h)
  have HROW := Lib.hid (fun j (h : j < M.length) => hsn.1 M[j] (List.getElem_mem h))
  have HM := Lib.hid hI
  have HRW := Lib.hid hrw
  have HCNT := Lib.hid (tree_cnt 256 m 0 rfl (Good.root hI.1 hI.2))
  have hml := its_len hI
  clear hmm hsm hsn hrw hI ha hb' hnc hpd
  go_enter Tryd.func5, Tryd.ntmps5
  go_wp2_with fail
  refine (back_any _ ht).mono ?_
  rintro e w1 ⟨rfl, hb1⟩
  go_wp2_with fail
  refine (HSM.out _ hb1).mono ?_
  rintro e w2 ⟨rfl, rfl⟩
  go_wp2_with fail
  refine (HSN.out _ hb1).mono ?_
  rintro e w3 ⟨rfl, rfl⟩
  go_wp2_with fail
  refine (HMA.out _ hb1).mono ?_
  rintro e w4 ⟨tv, sv, S, rfl, hp, hso, hsi, hb4⟩
  have hb := Below.next' hb1 hb4 hb1.size
  obtain ⟨tq, rfl⟩ := hp.ptr
  obtain ⟨SA, sc, rfl, hsg, _, _⟩ := hso.forms
  have hsl := hsi.len
  obtain ⟨ns, hns⟩ : ∃ ns, S.length = ns := ⟨_, rfl⟩
  rw [hns] at hsg hsl ⊢
  have HSL := Lib.hid hsl
  have hns280 : ns ≤ 280 := by omega
  have hTD := fun W (h : Below w4.heap.size w4 W) => tdig_any _ _ W (hp.below h) (Tab.below ht (Below.next' hb h hb.size))
  have hLE := fun W (h : Below w4.heap.size w4 W) => tlen_any _ _ W (hp.below h)
  have hKE := fun W (h : Below w4.heap.size w4 W) => tkeys_any m _ W HM.out (hp.below h)
  have hRK := fun W (h : Below w4.heap.size w4 W) => rkeys_any SA ns sc S W (hsg.below h) (by omega)
  rw [hsi.keysOf] at hRK
  rw [HCNT.out, ← HSL.out] at hLE
  rw [← HSL.out] at hKE
  obtain ⟨X, hX⟩ : ∃ X : ByteArray, ⟨(tree 256 m 0).dig.toArray⟩ = X := ⟨_, rfl⟩
  rw [hX] at hTD
  have hXX : (X.toList == X.toList) = true := by simp
  have HTD := Lib.hid hTD
  have HLE := Lib.hid hLE
  have HKE := Lib.hid hKE
  have HRK := Lib.hid hRK
  have HW4 := Lib.hid (And.intro hp (And.intro hsg hsi))
  clear hso hb1 hb4 HSM HSN HMA hns hsl hTD hLE hKE hRK hX hsg hsi
  go_wp2_with fail
  refine (HTD.out _ (Below.refl _ _)).mono ?_
  rintro e w5 ⟨rfl, hbn⟩
  have hp := hp.below hbn
  go_wp2_with fail
  go_loopw [8, 9] (fun xv iv w' => ∃ j : Nat, j ≤ p ∧ iv = .int .i64 (j : Int) ∧ TreeAt w' (tree 256 ((M.take j).foldl stepI m) 0) xv ∧ Below w4.heap.size w4 w') (fun _ iv _ => p - (intOf iv).toNat)
  case atStart => exact ⟨0, by omega, rfl, hp, hbn⟩
  case round =>
    clear hp hbn
    obtain ⟨j, hj, rfl, hp, hbn⟩ := hrel
    obtain ⟨pq, rfl⟩ := hp.ptr
    have hbw := Below.next' hb hbn hb.size
    rename World => wl
    by_cases hlt : j < p
    · have hjl : j < M.length := by omega
      have hst := HPS.out j hjl
      have hrow := HROW.out j hjl
      have hits := HPI.out j
      obtain ⟨x, hx⟩ : ∃ x, M[j]'hjl = x := ⟨_, rfl⟩
      obtain ⟨g, o, Br, rn, rc, rfl, c0, c1, c2, hsB, hmc, hcmm, hxk⟩ := (HB.out _ hbw).at_ hlt x hx
      rw [hx] at hst hrow
      obtain ⟨xb, xk, l⟩ := x
      dsimp only at *
      clear hx
      obtain ⟨R, hR⟩ : ∃ R, (M.take j).foldl stepI m = R := ⟨_, rfl⟩
      rw [hR] at hst hits hp
      have hrl := hsB.1
      obtain ⟨k, hkq⟩ : ∃ k, xk % 24 = k := ⟨_, rfl⟩
      have hk : k < 280 := by omega
      have hstd : stepI R ⟨xb, xk, l⟩ = if xb then delI R k else putI R k l := by rw [← hkq]; rfl
      rw [hstd] at hst
      have HST := Lib.hid hst
      have HKEY := Lib.hid (fun W => (show Calls Tryd.prog 32 #[.agg #[.bool xb, .int .u8 (xk : Int), .slice Br rn rc]] W fun e w' => e = .returned (.string (keyOf k)) ∧ Below W.heap.size W w' from by rw [← hkq]; exact key_any xb xk Br rn rc W hxk))
      have HDEL := Lib.hid (fun W (h1 : TreeAt W (tree 256 R 0) (.pointer pq)) (h2 : Tab W) => tdel_any R k _ W hits hk h1 h2)
      have HPUT := Lib.hid (fun W (h1 : TreeAt W (tree 256 R 0) (.pointer pq)) (h2 : Tab W) (h3 : Seg W Br rn l) => tput_any R k l _ Br rn rc W hits hk h1 h3 (by omega) h2)
      obtain ⟨KX, hKX⟩ : ∃ KX, keyOf k = KX := ⟨_, rfl⟩
      rw [hKX] at HKEY HDEL HPUT
      clear hKX hst hstd hits hR hkq
      rcases xb with _ | _
      · rw [if_neg (by simp)] at HST
        clear HDEL
        go_wp2
        refine wp_region_noPanic (wp_region_tills (fun W' => W'.cell? ⟨g, o + j * 3, none⟩ = some (.bool false) ∧ W'.cell? ⟨g, o + j * 3 + 1, none⟩ = some (.int .u8 (xk : Int)) ∧ W'.cell? ⟨g, o + j * 3 + 2, none⟩ = some (.slice Br rn rc)) (fun jj => decide (12 ≤ jj)) (by kernel_rfl) ?_)
        have hD := belD wl 1
        have c0 := cell_below hD c0
        have c1 := cell_below hD c1
        have c2 := cell_below hD c2
        have hp := hp.below hD
        have hsB := hsB.below hD
        have hbn := Below.next' hbn hD hbn.size
        have hbw := Below.next' hbw hD hbw.size
        change wpAnyS _ _ _ _ _ _ 13 _ _ (wl.drewN 1)
        clear hD
        generalize wl.drewN 1 = w5 at *
        refine wpAnyS_take (i := 0) (v := .pointer pq) rfl (by kernel_rfl) (fun _ _ _ h => h) ⟨c0, c1, c2⟩ (Or.inl ⟨rfl, fun W' hW => by obtain ⟨q0, q1, q2⟩ := hW; go_simp⟩) ?_
        refine wpAnyS_take (i := 1) (v := .slice (some ⟨g, o, none⟩) p d) rfl (by kernel_rfl) (fun _ _ _ h => h) ⟨c0, c1, c2⟩ (Or.inl ⟨rfl, fun W' hW => by obtain ⟨q0, q1, q2⟩ := hW; go_simp⟩) ?_
        refine wpAnyS_take (i := 2) (v := .int .i64 (j : Int)) rfl (by kernel_rfl) (fun _ _ _ h => h) ⟨c0, c1, c2⟩ (Or.inl ⟨rfl, fun W' hW => by obtain ⟨q0, q1, q2⟩ := hW; go_simp⟩) ?_
        refine wpAnyS_take (i := 3) (v := .pointer (some ⟨g, o + j * 3, none⟩)) rfl (by kernel_rfl) (fun _ _ _ h => h) ⟨c0, c1, c2⟩ (Or.inl ⟨rfl, fun W' hW => by obtain ⟨q0, q1, q2⟩ := hW; go_simp⟩) ?_
        refine wpAnyS_take (i := 4) (v := .agg #[.bool false, .int .u8 (xk : Int), .slice Br rn rc]) rfl (by kernel_rfl) (fun _ _ _ h => h) ⟨c0, c1, c2⟩ (Or.inl ⟨rfl, fun W' hW => by obtain ⟨q0, q1, q2⟩ := hW; go_simp⟩) ?_
        refine wpAnyS_take (i := 6) (v := .slice (some ⟨g, o, none⟩) p d) rfl (by kernel_rfl) (fun _ _ _ h => h) ⟨c0, c1, c2⟩ (Or.inl ⟨rfl, fun W' hW => by obtain ⟨q0, q1, q2⟩ := hW; go_simp⟩) ?_
        refine wpAnyS_take (i := 7) (v := .int .i64 (j : Int)) rfl (by kernel_rfl) (fun _ _ _ h => h) ⟨c0, c1, c2⟩ (Or.inl ⟨rfl, fun W' hW => by obtain ⟨q0, q1, q2⟩ := hW; go_simp⟩) ?_
        refine wpAnyS_take (i := 8) (v := .pointer (some ⟨g, o + j * 3, none⟩)) rfl (by kernel_rfl) (fun _ _ _ h => h) ⟨c0, c1, c2⟩ (Or.inl ⟨rfl, fun W' hW => by obtain ⟨q0, q1, q2⟩ := hW; go_simp⟩) ?_
        refine wpAnyS_take (i := 9) (v := .pointer (some ⟨g, o + j * 3 + 2, none⟩)) rfl (by kernel_rfl) (fun _ _ _ h => h) ⟨c0, c1, c2⟩ (Or.inl ⟨rfl, fun W' hW => by obtain ⟨q0, q1, q2⟩ := hW; go_simp⟩) ?_
        refine wpAnyS_take (i := 10) (v := .slice Br rn rc) rfl (by kernel_rfl) (fun _ _ _ h => h) ⟨c0, c1, c2⟩ (Or.inl ⟨rfl, fun W' hW => by obtain ⟨q0, q1, q2⟩ := hW; go_simp⟩) ?_
        refine wpAnyS_step 5 rfl (by decide +kernel) ?_
        go_wp2_with fail
        refine (HKEY.out _).mono ?_
        rintro e6 w6 ⟨rfl, hb6⟩
        have c0 := cell_below hb6 c0
        have c1 := cell_below hb6 c1
        have c2 := cell_below hb6 c2
        have hp := hp.below hb6
        have hsB := hsB.below hb6
        have hbn := Below.next' hbn hb6 hbn.size
        have hbw := Below.next' hbw hb6 hbw.size
        clear hb6 HKEY
        go_wp2_with fail
        refine ⟨.inr ⟨c0, c1, c2⟩, ?_⟩
        refine wpAnyS_step 11 rfl (by decide +kernel) ?_
        go_wp2_with fail
        refine (HPUT.out _ hp (Tab.below ht hbw) hsB).mono ?_
        rintro e7 w7 ⟨u7, rfl, hu, hb7⟩
        obtain ⟨uq, rfl⟩ := hu.ptr
        have hbn := Below.next' hbn hb7 hbn.size
        have c0 := cell_below hb7 c0
        have c1 := cell_below hb7 c1
        have c2 := cell_below hb7 c2
        clear hb7 HPUT hp hsB hbw
        go_wp2_with fail
        refine ⟨.inr ⟨c0, c1, c2⟩, ?_⟩
        refine wpAnyS_step 12 rfl (by decide +kernel) ?_
        go_wp2_with fail
        refine ⟨.inl rfl, ?_⟩
        refine wpAnyS_done (by decide +kernel) (NoPanic.normal ?_)
        have hbn := hbn
        go_wp2_with fail
        refine (HTD.out _ hbn).mono ?_
        rintro e8 w8 ⟨rfl, hb8⟩
        have hbn := Below.next' hbn hb8 hbn.size
        have hu := hu.below hb8
        clear hb8
        go_wp2_with fail
        refine (HLE.out _ hbn).mono ?_
        rintro e9 w9 ⟨rfl, rfl⟩
        go_wp2
        go_roundw
        case rel => exact ⟨j + 1, hlt, by go_num, by rw [HST.out]; exact hu, hbn⟩
        case measure => simp [intOf]; omega
      · rw [if_pos rfl] at HST
        clear HPUT
        go_wp2_with fail
        refine (HKEY.out _).mono ?_
        rintro e6 w6 ⟨rfl, hb6⟩
        have hp := hp.below hb6
        have hbn := Below.next' hbn hb6 hbn.size
        have hbw := Below.next' hbw hb6 hbw.size
        clear hb6 HKEY hsB
        go_wp2_with fail
        refine (HDEL.out _ hp (Tab.below ht hbw)).mono ?_
        rintro e7 w7 ⟨u7, rfl, hu, hb7⟩
        obtain ⟨uq, rfl⟩ := hu.ptr
        have hbn := Below.next' hbn hb7 hbn.size
        clear hb7 HDEL hp hbw
        have hbn := hbn
        go_wp2_with fail
        refine (HTD.out _ hbn).mono ?_
        rintro e8 w8 ⟨rfl, hb8⟩
        have hbn := Below.next' hbn hb8 hbn.size
        have hu := hu.below hb8
        clear hb8
        go_wp2_with fail
        refine (HLE.out _ hbn).mono ?_
        rintro e9 w9 ⟨rfl, rfl⟩
        go_wp2
        go_roundw
        case rel => exact ⟨j + 1, hlt, by go_num, by rw [HST.out]; exact hu, hbn⟩
        case measure => simp [intOf]; omega
    · obtain rfl : j = p := by omega
      clear hp
      go_wp2_with fail
      go_loopw [10, 11, 12] (fun iv _ _ w' => ∃ i : Nat, i ≤ ns ∧ iv = .int .i64 (i : Int) ∧ Below w4.heap.size w4 w') (fun iv _ _ _ => ns - (intOf iv).toNat)
      case atStart => exact ⟨0, by omega, rfl, hbn⟩
      case round =>
        clear hbn hbw
        obtain ⟨i, hi, rfl, hbn⟩ := hrel
        have hbw := Below.next' hb hbn hb.size
        rename World => wl
        by_cases hlt : i < ns
        · have h1 : i < S.length := by have h1 := HW4.out.2.2.len; have h2 := HSL.out; omega
          have h2 : i < m.length := by have h2 := HSL.out; omega
          have hit := ItsAt.at_ HW4.out.2.2 i h1 h2
          have hmx := List.getElem_mem h2
          obtain ⟨g, o, hSA, hc⟩ := HW4.out.2.1.at_ hlt
          subst hSA
          obtain ⟨s, hs⟩ : ∃ s, S[i]'h1 = s := ⟨_, rfl⟩
          obtain ⟨x, hx⟩ : ∃ x, m[i]'h2 = x := ⟨_, rfl⟩
          have c0 := hc 0 (.string s.s) (by rw [hs]; rfl)
          have c1 := hc 1 (.slice s.A s.n s.c) (by rw [hs]; rfl)
          rw [hs, hx] at hit
          rw [hx] at hmx
          have hxr := HRW.out x hmx
          obtain ⟨hxk, hxs, hxn, hxc⟩ := hit
          rw [show itLay.z = 2 from rfl] at c0 c1
          rw [Nat.add_zero] at c0
          rw [hxk] at c0
          have c0 := cell_below hbn c0
          have c1 := cell_below hbn c1
          have hxs := hxs.below hbn
          have hp4 := HW4.out.1.below hbn
          obtain ⟨xu, xl⟩ := x
          obtain ⟨es, eA, en, ec⟩ := s
          dsimp only at *
          have hg := tget_in m xu xl _ wl HM.out hmx hp4 (Tab.below ht hbw)
          have hen := hxs.1
          obtain ⟨KX, hKX⟩ : ∃ KX, keyOf xu = KX := ⟨_, rfl⟩
          rw [hKX] at c0 hg
          have HG := Lib.hid hg
          have HEN := Lib.hid hen
          clear hc hs hx hmx hxk hKX hg hp4 hen
          go_wp2_with fail
          refine HG.out.mono ?_
          rintro e6 w6 ⟨u6, rfl, hu6, hb6⟩
          obtain ⟨A6, c6, rfl, hs6, _, _⟩ := hu6.formsn en HEN.out
          have hxs := hxs.below hb6
          have c0 := cell_below hb6 c0
          have c1 := cell_below hb6 c1
          have hbn := Below.next' hbn hb6 hbn.size
          clear hb6 HG hu6 hbw
          go_wp2_with fail
          refine (bytes_any A6 eA en en c6 ec xl xl _ hs6 hxs (by have := HEN.out; simp only [maxLen]; omega)).mono ?_
          rintro e7 w7 ⟨rfl, u, rfl⟩
          rw [show (xl == xl) = true by simp]
          go_wp2
          go_roundw
          case rel => exact ⟨i + 1, hlt, by go_num, Below.drewN' hbn u⟩
          case measure => simp [intOf]; omega
        · clear HW4
          go_wp2_with fail
          refine (HKE.out _ hbn).mono ?_
          rintro e6 w9 ⟨A6, c6, rfl, hs6, hb9⟩
          have hbn := Below.next' hbn hb9 hbn.size
          clear hb9
          go_wp2_with fail
          refine (HRK.out _ hbn).mono ?_
          rintro e7 w10 ⟨A7, c7, rfl, hs7, hb10⟩
          have hs6 := hs6.below hb10
          have hbn := Below.next' hbn hb10 hbn.size
          clear hb10
          go_wp2_with fail
          refine (texts_any A6 A7 ns ns c6 c7 _ _ true _ hs6 hs7 (by omega) ⟨fun _ => rfl, fun _ => rfl⟩).mono ?_
          rintro e8 w11 ⟨rfl, u, rfl⟩
          have hbw := Below.drewN' (Below.next' hb hbn hb.size) u
          clear hs6 hs7 hbn
          go_wp2
          go_ret
          exact ⟨rfl, hbw⟩

set_option maxRecDepth 8000 in
set_option maxHeartbeats 4000000 in
theorem trieKeeps_long (A : Option Addr) (n c : Nat) (L : List TAct) (B : Option Addr) (p d : Nat) (M : List TAct) (w : World) (ha : SegTA w A n L) (hnc : n ≤ c) (hcm : c ≤ maxLen) (hb' : SegTA w B p M) (hpd : p ≤ d) (hdm : d ≤ maxLen) (h : ¬ SmallA 40 L ∨ ¬ SmallA 40 M) (ht : Tab w) :
    Calls Tryd.prog 5 #[.slice A n c, .slice B p d] w fun e w' => e = .returned (.bool true) ∧ Below w.heap.size w w' := by
  by_cases hs : SmallA 40 L
  · have HSM := Lib.hid (fun W (h : Below w.heap.size w W) => small09_any A n c L true W (ha.below h) hcm hnc ⟨fun _ => hs, fun _ => rfl⟩)
    have hn := h.resolve_left (fun h => h hs)
    have HSN := Lib.hid (fun W (h : Below w.heap.size w W) => small09_any B p d M false W (hb'.below h) hdm hpd ⟨fun h => Bool.noConfusion h, fun h => absurd h hn⟩)
    clear ha h hs hb' hn
    go_enter Tryd.func5, Tryd.ntmps5
    go_wp2_with fail
    refine (back_any _ ht).mono ?_
    rintro e w1 ⟨rfl, hb1⟩
    go_wp2_with fail
    refine (HSM.out _ hb1).mono ?_
    rintro e w2 ⟨rfl, rfl⟩
    go_wp2_with fail
    refine (HSN.out _ hb1).mono ?_
    rintro e w3 ⟨rfl, rfl⟩
    go_wp2_with fail
    refine (back_any _ (Tab.below ht hb1)).mono ?_
    rintro e w4 ⟨rfl, hb4⟩
    go_wp2
    go_ret
    exact ⟨rfl, Below.next' hb1 hb4 hb1.size⟩
  · have HSM := Lib.hid (fun W (h : Below w.heap.size w W) => small09_any A n c L false W (ha.below h) hcm hnc ⟨fun h => Bool.noConfusion h, fun h => absurd h hs⟩)
    clear ha h hs hb'
    go_enter Tryd.func5, Tryd.ntmps5
    go_wp2_with fail
    refine (back_any _ ht).mono ?_
    rintro e w1 ⟨rfl, hb1⟩
    go_wp2_with fail
    refine (HSM.out _ hb1).mono ?_
    rintro e w2 ⟨rfl, rfl⟩
    go_wp2_with fail
    refine (back_any _ (Tab.below ht hb1)).mono ?_
    rintro e w4 ⟨rfl, hb4⟩
    go_wp2
    go_ret
    exact ⟨rfl, Below.next' hb1 hb4 hb1.size⟩

theorem trieKeeps_walk (A : Option Addr) (n c : Nat) (L : List TAct) (B : Option Addr) (p d : Nat) (M : List TAct) (w : World) (ha : SegTA w A n L) (hnc : n ≤ c) (hcm : c ≤ maxLen) (hb' : SegTA w B p M) (hpd : p ≤ d) (hdm : d ≤ maxLen) (ht : Tab w) :
    Calls Tryd.prog 5 #[.slice A n c, .slice B p d] w fun e w' => e = .returned (.bool true) ∧ Below w.heap.size w w' := by
  by_cases h : SmallA 40 L
  · by_cases h2 : SmallA 40 M
    · exact trieKeeps_core A n c L B p d M w ha hnc hcm hb' hpd hdm h h2 ht
    · exact trieKeeps_long A n c L B p d M w ha hnc hcm hb' hpd hdm (.inr h2) ht
  · exact trieKeeps_long A n c L B p d M w ha hnc hcm hb' hpd hdm (.inl h) ht

end Go.Proofs.YtpbjianhkjjgkaaDoor
