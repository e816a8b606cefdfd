/-
  The walks of small and made, as the laws of package countinghouselaw09 have them.
-/
import Derived.Test.YtpbjianhkjjgkaaDoorZ14
import Derived.Test.YtpbjianhkjjgkaaDoorZ16
import Derived.Test.YtpbjianhkjjgkaaDoorZ17
import Derived.Test.YtpbjianhkjjgkaaDoorZ06
namespace Go.Proofs.YtpbjianhkjjgkaaDoor
open Go.RowKit

set_option maxHeartbeats 4000000 in
theorem small09_any (A : Option Addr) (n c : Nat) (L : List TAct) (b : Bool) (w : World) (ha : SegTA w A n L) (hcm : c ≤ maxLen) (hnc : n ≤ c) (hb : b = true ↔ SmallA 40 L) :
    Calls Tryd.prog 18 #[.slice A n c] w fun e w' => e = .returned (.bool b) ∧ w' = w := by
  have HB := Lib.hid hb
  have HN := Lib.hid ha.len
  clear hb
  unfold maxLen at hcm
  go_enter Tryd.func18, Tryd.ntmps18
  go_wp2
  go_loop [3] (fun i => ∃ j : Nat, j ≤ n ∧ i = .int .i64 j ∧ ∀ x ∈ L.take j, x.p.length ≤ 20) (fun i => n - (intOf i).toNat)
  case atStart => exact ⟨0, by omega, rfl, fun x hx => by simp at hx⟩
  case round =>
    obtain ⟨j, hj, rfl, hall⟩ := hrel
    by_cases hlt : j < n
    · have hjl : j < L.length := by rw [HN.out]; exact hlt
      obtain ⟨x, hx⟩ : ∃ x, L[j]'hjl = x := ⟨_, rfl⟩
      obtain ⟨g, o, B, m, cm, rfl, c0, c1, c2, hs, _⟩ := ha.at_ hlt x hx
      have hml := hs.1
      have HT := Lib.hid (show L.take (j + 1) = L.take j ++ [x] by rw [List.take_succ_eq_append_getElem hjl, hx])
      have HME := Lib.hid (show x ∈ L by rw [← hx]; exact List.getElem_mem hjl)
      have HA := Lib.hid hall
      have HML := Lib.hid hml
      clear hx hs hml hall c0 c1
      by_cases h20 : 20 < m
      · have d1 : decide ((20 : Int) < (m : Int)) = true := decide_eq_true (by omega)
        go_wp2
        go_ret
        exact ⟨by rw [boolIs HB.out (fun hf => by have h1 := hf.1 x HME.out; have h2 := HML.out; omega)]; rfl, rfl⟩
      · have d1 : decide ((20 : Int) < (m : Int)) = false := decide_eq_false (by omega)
        go_wp2
        go_round
        case rel =>
          refine ⟨j + 1, by omega, by go_num, fun y hy => ?_⟩
          rw [HT.out, List.mem_append, List.mem_singleton] at hy
          rcases hy with hy | rfl
          · exact HA.out y hy
          · have := HML.out
            omega
        case measure => simp [intOf]; omega
    · have hall' : ∀ x ∈ L, x.p.length ≤ 20 := by
        rw [List.take_of_length_le (by rw [HN.out]; omega)] at hall
        exact hall
      have HALL := Lib.hid hall'
      clear hall hall'
      by_cases h1 : n ≤ 40
      · have d1 : decide ((n : Int) ≤ 40) = true := decide_eq_true (by omega)
        go_wp2
        go_ret
        exact ⟨by rw [HB.out.2 ⟨HALL.out, by rw [HN.out]; exact h1⟩]; rfl, rfl⟩
      · have d1 : decide ((n : Int) ≤ 40) = false := decide_eq_false (by omega)
        go_wp2
        go_ret
        exact ⟨by rw [boolIs HB.out (fun hf => h1 (by rw [← HN.out]; exact hf.2))]; rfl, rfl⟩

set_option maxRecDepth 8000 in
set_option maxHeartbeats 16000000 in
theorem made09_any (A : Option Addr) (n c : Nat) (L : List TAct) (w : World) (ha : SegTA w A n L) (hcm : c ≤ maxLen) (hnc : n ≤ c) (hsm : ∀ x ∈ L, x.p.length ≤ 20) (ht : Tab w) :
    Calls Tryd.prog 19 #[.slice A n c] w fun e w' => ∃ p s S, e = .returned (.tuple #[p, s]) ∧ TreeAt w' (tree 256 (madeI L) 0) p ∧ OwnI w' w.heap.size s S ∧ ItsAt w' S (madeI L) ∧ Below w.heap.size w w' := by
  have HN := Lib.hid ha.len
  have HSM := Lib.hid hsm
  clear hsm
  unfold maxLen at hcm
  go_enter Tryd.func19, Tryd.ntmps19
  go_wp2_with fail
  go_loopw [4, 5, 6] (fun p s i w' => ∃ (j : Nat) (S : List ItS), j ≤ n ∧ i = .int .i64 j ∧ TreeAt w' (tree 256 (madeI (L.take j)) 0) p ∧ OwnI w' w.heap.size s S ∧ ItsAt w' S (madeI (L.take j)) ∧ Below w.heap.size w w') (fun _ _ i _ => n - (intOf i).toNat)
  case atStart => exact ⟨0, [], by omega, rfl, by rw [List.take_zero]; rfl, OwnG.nil _ _ _, by rw [List.take_zero]; exact trivial, Below.refl _ _⟩
  case round =>
    obtain ⟨j, S, hj, rfl, hvp, hvo, hvi, hb⟩ := hrel
    by_cases hlt : j < n
    · have hjl : j < L.length := by rw [HN.out]; exact hlt
      obtain ⟨x, hx⟩ : ∃ x, L[j]'hjl = x := ⟨_, rfl⟩
      have HST := Lib.hid (show madeI (L.take (j + 1)) = stepI (madeI (L.take j)) x by rw [madeI_succ L j hjl, hx])
      obtain ⟨g, o, B, m, cm, rfl, c0, c1, c2, hsB, hmc, hcmm, hxk⟩ := (ha.below hb).at_ hlt x hx
      have hm20 : m ≤ 100000 := by
        have h1 := hsB.1
        have h2 := HSM.out x (by rw [← hx]; exact List.getElem_mem hjl)
        omega
      have hM := madeI_its (L.take j)
      have hS : S.length ≤ 100000 := by
        have h1 := hvi.len
        have h2 := its_len hM
        omega
      clear hx
      generalize madeI (L.take j) = M at *
      obtain ⟨xb, xk, l⟩ := x
      dsimp only at c0 c1 c2 hsB hxk HST
      obtain ⟨SA, sc, rfl, hvs, hsc1, hsc2⟩ := hvo.forms
      obtain ⟨pq, rfl⟩ := hvp.ptr
      obtain ⟨k, hkq⟩ : ∃ k, xk % 24 = k := ⟨_, rfl⟩
      have hk : k < 280 := by omega
      have hstd : stepI M ⟨xb, xk, l⟩ = if xb then delI M k else putI M k l := by rw [← hkq]; rfl
      rw [hstd] at HST
      clear hstd hvo ha
      have HKEY := Lib.hid (fun W => (show Calls Tryd.prog 32 #[.agg #[.bool xb, .int .u8 (xk : Int), .slice B m cm]] W fun e w' => e = .returned (.string (keyOf k)) ∧ Below W.heap.size W w' from by rw [← hkq]; exact key_any xb xk B m cm W hxk))
      have HTdel := Lib.hid (fun W (h1 : TreeAt W (tree 256 M 0) (.pointer pq)) (h2 : Tab W) => tdel_any M k _ W hM hk h1 h2)
      have HRdel := Lib.hid (fun W (h1 : SegG itLay W SA S.length S) (h2 : ItsAt W S M) => rdelI_any SA S.length sc S M k W h1 h2 hM hk hS)
      have HTput := Lib.hid (fun W (h1 : TreeAt W (tree 256 M 0) (.pointer pq)) (h2 : Tab W) (h3 : Seg W B m l) => tput_any M k l _ B m cm W hM hk h1 h3 hm20 h2)
      have HRput := Lib.hid (fun W (h1 : SegG itLay W SA S.length S) (h2 : ItsAt W S M) (h3 : Seg W B m l) => rputI_any SA S.length sc S M k B m cm l W h1 h2 hM hk h3 hS hm20)
      clear hM
      clear hkq
      obtain ⟨K, hK⟩ : ∃ K, keyOf k = K := ⟨_, rfl⟩
      rw [hK] at HTdel HTput HRdel HRput HKEY
      clear hK
      rcases xb with _ | _
      · rw [if_neg (by simp)] at HST
        clear HTdel HRdel
        go_wp2
        rename World => wx
        refine wp_region_noPanic (wp_region_tills (fun W' => W'.cell? ⟨g, o + j * 3, none⟩ = some (.bool false) ∧ W'.cell? ⟨g, o + j * 3 + 1, none⟩ = some (.int .u8 (xk : Int)) ∧ W'.cell? ⟨g, o + j * 3 + 2, none⟩ = some (.slice B m cm) ∧ Below w.heap.size w W') (fun jj => decide (24 ≤ jj)) (by kernel_rfl) ?_)
        have hD := Below.drewN' (Below.refl wx.heap.size wx) 1
        have hC : (fun W' : World => W'.cell? ⟨g, o + j * 3, none⟩ = some (.bool false) ∧ W'.cell? ⟨g, o + j * 3 + 1, none⟩ = some (.int .u8 (xk : Int)) ∧ W'.cell? ⟨g, o + j * 3 + 2, none⟩ = some (.slice B m cm) ∧ Below w.heap.size w W') (wx.drewN 1) := ⟨cell_below hD c0, cell_below hD c1, cell_below hD c2, Below.next' hb hD hb.size⟩
        have hvp := hvp.below hD
        have hvs := hvs.below hD
        have hvi := hvi.below hD
        have hsB := hsB.below hD
        have htD := Tab.below ht hC.2.2.2
        change wpAnyS _ _ _ _ _ _ 26 _ _ (wx.drewN 1)
        refine wpAnyS_take (i := 0) (v := .pointer pq) rfl (by kernel_rfl) (fun _ _ _ h => h) hC (Or.inl ⟨rfl, fun W' hW => by obtain ⟨q0, q1, q2, _⟩ := hW; go_simp⟩) ?_
        refine wpAnyS_take (i := 1) (v := .slice (some ⟨g, o, none⟩) n c) rfl (by kernel_rfl) (fun _ _ _ h => h) hC (Or.inl ⟨rfl, fun W' hW => by obtain ⟨q0, q1, q2, _⟩ := hW; go_simp⟩) ?_
        refine wpAnyS_take (i := 2) (v := .int .i64 (j : Int)) rfl (by kernel_rfl) (fun _ _ _ h => h) hC (Or.inl ⟨rfl, fun W' hW => by obtain ⟨q0, q1, q2, _⟩ := hW; go_simp⟩) ?_
        refine wpAnyS_take (i := 3) (v := .pointer (some ⟨g, o + j * 3, none⟩)) rfl (by kernel_rfl) (fun _ _ _ h => h) hC (Or.inl ⟨rfl, fun W' hW => by obtain ⟨q0, q1, q2, _⟩ := hW; go_simp⟩) ?_
        refine wpAnyS_take (i := 4) (v := .agg #[.bool false, .int .u8 (xk : Int), .slice B m cm]) rfl (by kernel_rfl) (fun _ _ _ h => h) hC (Or.inl ⟨rfl, fun W' hW => by obtain ⟨q0, q1, q2, _⟩ := hW; go_simp⟩) ?_
        refine wpAnyS_take (i := 6) (v := .slice (some ⟨g, o, none⟩) n c) rfl (by kernel_rfl) (fun _ _ _ h => h) hC (Or.inl ⟨rfl, fun W' hW => by obtain ⟨q0, q1, q2, _⟩ := hW; go_simp⟩) ?_
        refine wpAnyS_take (i := 7) (v := .int .i64 (j : Int)) rfl (by kernel_rfl) (fun _ _ _ h => h) hC (Or.inl ⟨rfl, fun W' hW => by obtain ⟨q0, q1, q2, _⟩ := hW; go_simp⟩) ?_
        refine wpAnyS_take (i := 8) (v := .pointer (some ⟨g, o + j * 3, none⟩)) rfl (by kernel_rfl) (fun _ _ _ h => h) hC (Or.inl ⟨rfl, fun W' hW => by obtain ⟨q0, q1, q2, _⟩ := hW; go_simp⟩) ?_
        refine wpAnyS_take (i := 9) (v := .pointer (some ⟨g, o + j * 3 + 2, none⟩)) rfl (by kernel_rfl) (fun _ _ _ h => h) hC (Or.inl ⟨rfl, fun W' hW => by obtain ⟨q0, q1, q2, _⟩ := hW; go_simp⟩) ?_
        refine wpAnyS_take (i := 10) (v := .slice B m cm) rfl (by kernel_rfl) (fun _ _ _ h => h) hC (Or.inl ⟨rfl, fun W' hW => by obtain ⟨q0, q1, q2, _⟩ := hW; go_simp⟩) ?_
        refine wpAnyS_take (i := 12) (v := .slice SA S.length sc) rfl (by kernel_rfl) (fun _ _ _ h => h) hC (Or.inl ⟨rfl, fun W' hW => by obtain ⟨q0, q1, q2, _⟩ := hW; go_simp⟩) ?_
        refine wpAnyS_take (i := 13) (v := .slice (some ⟨g, o, none⟩) n c) rfl (by kernel_rfl) (fun _ _ _ h => h) hC (Or.inl ⟨rfl, fun W' hW => by obtain ⟨q0, q1, q2, _⟩ := hW; go_simp⟩) ?_
        refine wpAnyS_take (i := 14) (v := .int .i64 (j : Int)) rfl (by kernel_rfl) (fun _ _ _ h => h) hC (Or.inl ⟨rfl, fun W' hW => by obtain ⟨q0, q1, q2, _⟩ := hW; go_simp⟩) ?_
        refine wpAnyS_take (i := 15) (v := .pointer (some ⟨g, o + j * 3, none⟩)) rfl (by kernel_rfl) (fun _ _ _ h => h) hC (Or.inl ⟨rfl, fun W' hW => by obtain ⟨q0, q1, q2, _⟩ := hW; go_simp⟩) ?_
        refine wpAnyS_take (i := 16) (v := .agg #[.bool false, .int .u8 (xk : Int), .slice B m cm]) rfl (by kernel_rfl) (fun _ _ _ h => h) hC (Or.inl ⟨rfl, fun W' hW => by obtain ⟨q0, q1, q2, _⟩ := hW; go_simp⟩) ?_
        refine wpAnyS_take (i := 18) (v := .slice (some ⟨g, o, none⟩) n c) rfl (by kernel_rfl) (fun _ _ _ h => h) hC (Or.inl ⟨rfl, fun W' hW => by obtain ⟨q0, q1, q2, _⟩ := hW; go_simp⟩) ?_
        refine wpAnyS_take (i := 19) (v := .int .i64 (j : Int)) rfl (by kernel_rfl) (fun _ _ _ h => h) hC (Or.inl ⟨rfl, fun W' hW => by obtain ⟨q0, q1, q2, _⟩ := hW; go_simp⟩) ?_
        refine wpAnyS_take (i := 20) (v := .pointer (some ⟨g, o + j * 3, none⟩)) rfl (by kernel_rfl) (fun _ _ _ h => h) hC (Or.inl ⟨rfl, fun W' hW => by obtain ⟨q0, q1, q2, _⟩ := hW; go_simp⟩) ?_
        refine wpAnyS_take (i := 21) (v := .pointer (some ⟨g, o + j * 3 + 2, none⟩)) rfl (by kernel_rfl) (fun _ _ _ h => h) hC (Or.inl ⟨rfl, fun W' hW => by obtain ⟨q0, q1, q2, _⟩ := hW; go_simp⟩) ?_
        refine wpAnyS_take (i := 22) (v := .slice B m cm) rfl (by kernel_rfl) (fun _ _ _ h => h) hC (Or.inl ⟨rfl, fun W' hW => by obtain ⟨q0, q1, q2, _⟩ := hW; go_simp⟩) ?_
        refine wpAnyS_step 5 rfl (by decide +kernel) ?_
        go_wp2_with fail
        refine (HKEY.out _).mono ?_
        rintro e w1 ⟨rfl, hb1⟩
        have hC : (fun W' : World => W'.cell? ⟨g, o + j * 3, none⟩ = some (.bool false) ∧ W'.cell? ⟨g, o + j * 3 + 1, none⟩ = some (.int .u8 (xk : Int)) ∧ W'.cell? ⟨g, o + j * 3 + 2, none⟩ = some (.slice B m cm) ∧ Below w.heap.size w W') w1 := ⟨cell_below hb1 hC.1, cell_below hb1 hC.2.1, cell_below hb1 hC.2.2.1, Below.next' hC.2.2.2 hb1 hC.2.2.2.size⟩
        have htD := Tab.below ht hC.2.2.2
        have hsB := hsB.below hb1
        have hvp := hvp.below hb1
        have hvs := hvs.below hb1
        have hvi := hvi.below hb1
        clear hb1
        go_wp2_with fail
        refine ⟨.inr hC, ?_⟩
        refine wpAnyS_step 11 rfl (by decide +kernel) ?_
        go_wp2_with fail
        refine (HTput.out _ hvp htD hsB).mono ?_
        rintro e w2 ⟨u2, rfl, hu, hb2⟩
        obtain ⟨uq, rfl⟩ := hu.ptr
        have hC : (fun W' : World => W'.cell? ⟨g, o + j * 3, none⟩ = some (.bool false) ∧ W'.cell? ⟨g, o + j * 3 + 1, none⟩ = some (.int .u8 (xk : Int)) ∧ W'.cell? ⟨g, o + j * 3 + 2, none⟩ = some (.slice B m cm) ∧ Below w.heap.size w W') w2 := ⟨cell_below hb2 hC.1, cell_below hb2 hC.2.1, cell_below hb2 hC.2.2.1, Below.next' hC.2.2.2 hb2 hC.2.2.2.size⟩
        have htD := Tab.below ht hC.2.2.2
        have hsB := hsB.below hb2
        have hvs := hvs.below hb2
        have hvi := hvi.below hb2
        clear hvp hb2
        go_wp2_with fail
        refine ⟨.inr hC, ?_⟩
        refine wpAnyS_step 17 rfl (by decide +kernel) ?_
        go_wp2_with fail
        refine (HKEY.out _).mono ?_
        rintro e w3 ⟨rfl, hb3⟩
        have hC : (fun W' : World => W'.cell? ⟨g, o + j * 3, none⟩ = some (.bool false) ∧ W'.cell? ⟨g, o + j * 3 + 1, none⟩ = some (.int .u8 (xk : Int)) ∧ W'.cell? ⟨g, o + j * 3 + 2, none⟩ = some (.slice B m cm) ∧ Below w.heap.size w W') w3 := ⟨cell_below hb3 hC.1, cell_below hb3 hC.2.1, cell_below hb3 hC.2.2.1, Below.next' hC.2.2.2 hb3 hC.2.2.2.size⟩
        have htD := Tab.below ht hC.2.2.2
        have hsB := hsB.below hb3
        have hu := hu.below hb3
        have hvs := hvs.below hb3
        have hvi := hvi.below hb3
        clear hb3
        go_wp2_with fail
        refine ⟨.inr hC, ?_⟩
        refine wpAnyS_step 23 rfl (by decide +kernel) ?_
        go_wp2_with fail
        refine (HRput.out _ hvs hvi hsB).mono ?_
        rintro e w4 ⟨v4, R, rfl, hR, hRi, hb4⟩
        obtain ⟨RA, rc, rfl, _, _, _⟩ := hR.forms
        have hu := hu.below hb4
        have hR := hR.mono (b := w.heap.size) hC.2.2.2.size
        have hC : (fun W' : World => W'.cell? ⟨g, o + j * 3, none⟩ = some (.bool false) ∧ W'.cell? ⟨g, o + j * 3 + 1, none⟩ = some (.int .u8 (xk : Int)) ∧ W'.cell? ⟨g, o + j * 3 + 2, none⟩ = some (.slice B m cm) ∧ Below w.heap.size w W') w4 := ⟨cell_below hb4 hC.1, cell_below hb4 hC.2.1, cell_below hb4 hC.2.2.1, Below.next' hC.2.2.2 hb4 hC.2.2.2.size⟩
        clear hvs hvi htD hsB hb4
        go_wp2_with fail
        refine ⟨.inr hC, ?_⟩
        refine wpAnyS_step 24 rfl (by decide +kernel) ?_
        go_wp2_with fail
        refine ⟨.inl rfl, ?_⟩
        refine wpAnyS_step 25 rfl (by decide +kernel) ?_
        go_wp2_with fail
        refine ⟨.inl rfl, ?_⟩
        refine wpAnyS_done (by decide +kernel) (NoPanic.normal ?_)
        go_wp2
        go_roundw
        case rel =>
          refine ⟨j + 1, R, by omega, by go_num, ?_, hR, ?_, hC.2.2.2⟩
          · rw [HST.out]; exact hu
          · rw [HST.out]; exact hRi
        case measure => simp [intOf]; omega
      · rw [if_pos rfl] at HST
        clear HTput HRput
        go_wp2
        rename World => wx
        refine wp_region_noPanic (wp_region_tills (fun W' => W'.cell? ⟨g, o + j * 3, none⟩ = some (.bool true) ∧ W'.cell? ⟨g, o + j * 3 + 1, none⟩ = some (.int .u8 (xk : Int)) ∧ W'.cell? ⟨g, o + j * 3 + 2, none⟩ = some (.slice B m cm) ∧ Below w.heap.size w W') (fun jj => decide (14 ≤ jj)) (by kernel_rfl) ?_)
        have hD := Below.drewN' (Below.refl wx.heap.size wx) 1
        have hC : (fun W' : World => W'.cell? ⟨g, o + j * 3, none⟩ = some (.bool true) ∧ W'.cell? ⟨g, o + j * 3 + 1, none⟩ = some (.int .u8 (xk : Int)) ∧ W'.cell? ⟨g, o + j * 3 + 2, none⟩ = some (.slice B m cm) ∧ Below w.heap.size w W') (wx.drewN 1) := ⟨cell_below hD c0, cell_below hD c1, cell_below hD c2, Below.next' hb hD hb.size⟩
        have hvp := hvp.below hD
        have hvs := hvs.below hD
        have hvi := hvi.below hD
        have hsB := hsB.below hD
        have htD := Tab.below ht hC.2.2.2
        change wpAnyS _ _ _ _ _ _ 16 _ _ (wx.drewN 1)
        refine wpAnyS_take (i := 0) (v := .pointer pq) rfl (by kernel_rfl) (fun _ _ _ h => h) hC (Or.inl ⟨rfl, fun W' hW => by obtain ⟨q0, q1, q2, _⟩ := hW; go_simp⟩) ?_
        refine wpAnyS_take (i := 1) (v := .slice (some ⟨g, o, none⟩) n c) rfl (by kernel_rfl) (fun _ _ _ h => h) hC (Or.inl ⟨rfl, fun W' hW => by obtain ⟨q0, q1, q2, _⟩ := hW; go_simp⟩) ?_
        refine wpAnyS_take (i := 2) (v := .int .i64 (j : Int)) rfl (by kernel_rfl) (fun _ _ _ h => h) hC (Or.inl ⟨rfl, fun W' hW => by obtain ⟨q0, q1, q2, _⟩ := hW; go_simp⟩) ?_
        refine wpAnyS_take (i := 3) (v := .pointer (some ⟨g, o + j * 3, none⟩)) rfl (by kernel_rfl) (fun _ _ _ h => h) hC (Or.inl ⟨rfl, fun W' hW => by obtain ⟨q0, q1, q2, _⟩ := hW; go_simp⟩) ?_
        refine wpAnyS_take (i := 4) (v := .agg #[.bool true, .int .u8 (xk : Int), .slice B m cm]) rfl (by kernel_rfl) (fun _ _ _ h => h) hC (Or.inl ⟨rfl, fun W' hW => by obtain ⟨q0, q1, q2, _⟩ := hW; go_simp⟩) ?_
        refine wpAnyS_take (i := 7) (v := .slice SA S.length sc) rfl (by kernel_rfl) (fun _ _ _ h => h) hC (Or.inl ⟨rfl, fun W' hW => by obtain ⟨q0, q1, q2, _⟩ := hW; go_simp⟩) ?_
        refine wpAnyS_take (i := 8) (v := .slice (some ⟨g, o, none⟩) n c) rfl (by kernel_rfl) (fun _ _ _ h => h) hC (Or.inl ⟨rfl, fun W' hW => by obtain ⟨q0, q1, q2, _⟩ := hW; go_simp⟩) ?_
        refine wpAnyS_take (i := 9) (v := .int .i64 (j : Int)) rfl (by kernel_rfl) (fun _ _ _ h => h) hC (Or.inl ⟨rfl, fun W' hW => by obtain ⟨q0, q1, q2, _⟩ := hW; go_simp⟩) ?_
        refine wpAnyS_take (i := 10) (v := .pointer (some ⟨g, o + j * 3, none⟩)) rfl (by kernel_rfl) (fun _ _ _ h => h) hC (Or.inl ⟨rfl, fun W' hW => by obtain ⟨q0, q1, q2, _⟩ := hW; go_simp⟩) ?_
        refine wpAnyS_take (i := 11) (v := .agg #[.bool true, .int .u8 (xk : Int), .slice B m cm]) rfl (by kernel_rfl) (fun _ _ _ h => h) hC (Or.inl ⟨rfl, fun W' hW => by obtain ⟨q0, q1, q2, _⟩ := hW; go_simp⟩) ?_
        refine wpAnyS_step 5 rfl (by decide +kernel) ?_
        go_wp2_with fail
        refine (HKEY.out _).mono ?_
        rintro e w1 ⟨rfl, hb1⟩
        have hC : (fun W' : World => W'.cell? ⟨g, o + j * 3, none⟩ = some (.bool true) ∧ W'.cell? ⟨g, o + j * 3 + 1, none⟩ = some (.int .u8 (xk : Int)) ∧ W'.cell? ⟨g, o + j * 3 + 2, none⟩ = some (.slice B m cm) ∧ Below w.heap.size w W') w1 := ⟨cell_below hb1 hC.1, cell_below hb1 hC.2.1, cell_below hb1 hC.2.2.1, Below.next' hC.2.2.2 hb1 hC.2.2.2.size⟩
        have htD := Tab.below ht hC.2.2.2
        have hsB := hsB.below hb1
        have hvp := hvp.below hb1
        have hvs := hvs.below hb1
        have hvi := hvi.below hb1
        clear hb1
        go_wp2_with fail
        refine ⟨.inr hC, ?_⟩
        refine wpAnyS_step 6 rfl (by decide +kernel) ?_
        go_wp2_with fail
        refine (HTdel.out _ hvp htD).mono ?_
        rintro e w2 ⟨u2, rfl, hu, hb2⟩
        obtain ⟨uq, rfl⟩ := hu.ptr
        have hC : (fun W' : World => W'.cell? ⟨g, o + j * 3, none⟩ = some (.bool true) ∧ W'.cell? ⟨g, o + j * 3 + 1, none⟩ = some (.int .u8 (xk : Int)) ∧ W'.cell? ⟨g, o + j * 3 + 2, none⟩ = some (.slice B m cm) ∧ Below w.heap.size w W') w2 := ⟨cell_below hb2 hC.1, cell_below hb2 hC.2.1, cell_below hb2 hC.2.2.1, Below.next' hC.2.2.2 hb2 hC.2.2.2.size⟩
        have htD := Tab.below ht hC.2.2.2
        have hsB := hsB.below hb2
        have hvs := hvs.below hb2
        have hvi := hvi.below hb2
        clear hvp hb2
        go_wp2_with fail
        refine ⟨.inr hC, ?_⟩
        refine wpAnyS_step 12 rfl (by decide +kernel) ?_
        go_wp2_with fail
        refine (HKEY.out _).mono ?_
        rintro e w3 ⟨rfl, hb3⟩
        have hC : (fun W' : World => W'.cell? ⟨g, o + j * 3, none⟩ = some (.bool true) ∧ W'.cell? ⟨g, o + j * 3 + 1, none⟩ = some (.int .u8 (xk : Int)) ∧ W'.cell? ⟨g, o + j * 3 + 2, none⟩ = some (.slice B m cm) ∧ Below w.heap.size w W') w3 := ⟨cell_below hb3 hC.1, cell_below hb3 hC.2.1, cell_below hb3 hC.2.2.1, Below.next' hC.2.2.2 hb3 hC.2.2.2.size⟩
        have htD := Tab.below ht hC.2.2.2
        have hsB := hsB.below hb3
        have hu := hu.below hb3
        have hvs := hvs.below hb3
        have hvi := hvi.below hb3
        clear hb3
        go_wp2_with fail
        refine ⟨.inr hC, ?_⟩
        refine wpAnyS_step 13 rfl (by decide +kernel) ?_
        go_wp2_with fail
        refine (HRdel.out _ hvs hvi).mono ?_
        rintro e w4 ⟨v4, R, rfl, hR, hRi, hb4⟩
        obtain ⟨RA, rc, rfl, _, _, _⟩ := hR.forms
        have hu := hu.below hb4
        have hR := hR.mono (b := w.heap.size) hC.2.2.2.size
        have hC : (fun W' : World => W'.cell? ⟨g, o + j * 3, none⟩ = some (.bool true) ∧ W'.cell? ⟨g, o + j * 3 + 1, none⟩ = some (.int .u8 (xk : Int)) ∧ W'.cell? ⟨g, o + j * 3 + 2, none⟩ = some (.slice B m cm) ∧ Below w.heap.size w W') w4 := ⟨cell_below hb4 hC.1, cell_below hb4 hC.2.1, cell_below hb4 hC.2.2.1, Below.next' hC.2.2.2 hb4 hC.2.2.2.size⟩
        clear hvs hvi htD hsB hb4
        go_wp2_with fail
        refine ⟨.inr hC, ?_⟩
        refine wpAnyS_step 14 rfl (by decide +kernel) ?_
        go_wp2_with fail
        refine ⟨.inl rfl, ?_⟩
        refine wpAnyS_step 15 rfl (by decide +kernel) ?_
        go_wp2_with fail
        refine ⟨.inl rfl, ?_⟩
        refine wpAnyS_done (by decide +kernel) (NoPanic.normal ?_)
        go_wp2
        go_roundw
        case rel =>
          refine ⟨j + 1, R, by omega, by go_num, ?_, hR, ?_, hC.2.2.2⟩
          · rw [HST.out]; exact hu
          · rw [HST.out]; exact hRi
        case measure => simp [intOf]; omega
    · obtain rfl : n = j := by omega
      rw [List.take_of_length_le (by rw [HN.out]; exact Nat.le_refl _)] at hvp hvi
      obtain ⟨SA, sc, rfl, _, _, _⟩ := hvo.forms
      obtain ⟨pq, rfl⟩ := hvp.ptr
      clear ha
      go_wp2
      go_ret2
      exact ⟨_, _, S, rfl, hvp, hvo, hvi, hb⟩
    
end Go.Proofs.YtpbjianhkjjgkaaDoor
