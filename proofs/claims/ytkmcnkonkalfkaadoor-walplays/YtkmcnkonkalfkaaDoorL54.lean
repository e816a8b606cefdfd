/-
  The walk of the law WalOpens.
-/
import Derived.Test.YtkmcnkonkalfkaaDoorWW8
import Derived.Test.YtkmcnkonkalfkaaDoorL52
import Derived.Test.YtkmcnkonkalfkaaDoorQV
namespace Go.Proofs.YtkmcnkonkalfkaaDoor
open Go.RowKit

theorem OwnL.segk {w : World} {base : Nat} {v : Value} {ls : List (List UInt8)} (h : OwnL w base v ls) (k : Nat) (hk : ls.length = k) : ∃ A c, v = .slice A k c ∧ SegL w A k ls ∧ k ≤ c ∧ c ≤ maxLen := by
  subst hk
  exact h.seg
theorem Own.formsk {w : World} {base : Nat} {e : TypeId} {v : Value} {l : List UInt8} (h : Own w base e v l) (k : Nat) (hk : l.length = k) : ∃ A c, v = .slice A k c ∧ Seg w A k l ∧ k ≤ c ∧ c ≤ maxLen := by
  subst hk
  exact h.forms

set_option maxRecDepth 8000 in
set_option maxHeartbeats 16000000 in
theorem walOpens_core (A : Option Addr) (n c : Nat) (l : List UInt8) (A' : Option Addr) (n' c' : Nat) (L : List (List UInt8)) (x r : Nat) (hr : x % 4 = r) (w : World) (ha : Seg w A n l) (ha' : SegL w A' n' L) (hc' : n' ≤ c') (hcm' : c' ≤ maxLen) (h1 : n ≤ 60) (hS : Small L) (ht : Tab w) :
    Calls Tryd.prog 8 #[.slice A n c, .slice A' n' c', .int .u8 (x : Int)] w fun e w' => e = .returned (.bool true) ∧ Below w.heap.size w w' := by
  have d0 : decide ((60 : Int) < (n : Int)) = false := decide_eq_false (by omega)
  have hm1 : (x : Int) % 4 = (r : Int) := by omega
  have hm2 : Int.tmod (x : Int) 4 = (r : Int) := by rw [Int.tmod_eq_emod_of_nonneg (by omega)]; omega
  have hr4 : r < 4 := by omega
  have hwr : IntKind.i64.wrap ((r : Int) - 1) = (r : Int) - 1 := IntWalk.i64_in _ (by omega)
  clear hr
  obtain ⟨fl, hfl⟩ : ∃ fl, allL L = fl := ⟨_, rfl⟩
  have HFL := Lib.hid hfl
  obtain ⟨N, hN⟩ : ∃ N, fl.length = N := ⟨_, rfl⟩
  have HF := Lib.hid hN
  have hNb : N ≤ 1360 := by
    have h1 := Small.size (L := L) hS.2
    have h2 := hS.1
    have h3 := allL_length L
    rw [hfl] at h3
    omega
  obtain ⟨d, hd⟩ : ∃ d, fl ++ l = d := ⟨_, rfl⟩
  have HD := Lib.hid hd
  have hdl : d.length = N + n := by rw [← hd, List.length_append, hN, ha.1]
  have HDL := Lib.hid hdl
  have HS := Lib.hid hS
  clear hd hfl hN hS hdl
  go_enter Tryd.func8, Tryd.ntmps8
  go_wp2_with fail
  refine (both_any _ ht).mono ?_
  rintro e w1 ⟨rfl, hb1⟩
  go_wp2_with fail
  refine (small_any A' n' c' L _ (ha'.below hb1) hc' hcm').mono ?_
  rintro e w0 ⟨⟨b, rfl, hb⟩, rfl⟩
  obtain rfl : b = true := hb.2 HS.out
  clear hb
  go_wp2_with fail
  refine (all_any A' n' c' L _ (ha'.below hb1) HS.out).mono ?_
  rw [HFL.out]
  rintro e w2 ⟨v2, rfl, ho2, hb2⟩
  have hbw2 := Below.next' hb1 hb2 hb1.size
  obtain ⟨A2, c2, rfl, hs2, _, _⟩ := ho2.formsk N HF.out
  clear ho2 hb1 hb2
  go_wp2_with fail
  refine (join_any A2 A N n c2 c fl l _ hs2 (ha.below hbw2) (by omega)).mono ?_
  rw [HD.out]
  rintro e w3 ⟨v3, rfl, ho3, hb3⟩
  have hbw3 := Below.next' hbw2 hb3 hbw2.size
  obtain ⟨A3, c3, rfl, hs3, hl3, hm3⟩ := ho3.formsk (N + n) HDL.out
  clear ho3 hb3 hbw2 hs2
  go_wp2_with fail
  refine (new_any A3 (N + n) c3 d _ hs3 (by omega)).mono ?_
  rintro e w4 ⟨g, v4, rfl, hd4, hb4⟩
  have hs4 := hs3.below hb4
  have hbw4 := Below.next' hbw3 hb4 hbw3.size
  have hz4 := hb4.size
  go_wp2_with fail
  refine (rnew_any A3 (N + n) c3 d _ hs4 (by omega)).mono ?_
  rintro e w5 ⟨gm, v5, rfl, hm5, hb5⟩
  have hbw5 := Below.next' hbw4 hb5 hbw4.size
  have hz3 := hbw3.size
  have ht5 : Mid w5 w3.heap.size g gm v4 v5 d (N + n) false 0 d (N + n) (-1) := ⟨hd4.below hb5, hm5.mono hz4, fun k h1 h2 => by
    have := hd4.lt k h1
    have := hm5.ge k h2
    omega⟩
  clear hd4 hm5 hb4 hb5 hs3 hs4 hbw3 hbw4
  go_wp2_with fail
  refine (fail_any ht5.dk ((r : Int) - 1) (by omega)).mono ?_
  rintro e w6 ⟨rfl, hd6, ho6'⟩
  have ho6 : Only w5 w6 (DkS g v4) := ho6'.mono fun k _ e => .inl e
  have hbw6 := ht5.belowd hbw5 hz3 ho6
  have ht6 := ht5.d hd6 ho6 (Moved.refl _ _)
  clear ht5 hbw5 hd6 ho6 ho6'
  go_wp2_with fail
  refine (rfail_any ht6.mm ((r : Int) - 1) (by omega)).mono ?_
  rintro e w7 ⟨rfl, hd7, ho7'⟩
  have ho7 : Only w6 w7 (DkS gm v5) := ho7'.mono fun k _ e => .inl e
  have hbw7 := ht6.belowm hbw6 hz3 ho7
  have ht7 := ht6.m hd7 ho7 (Moved.refl _ _)
  have hrl := Rl.fail ((r : Int) - 1)
  generalize decide ((0 : Int) ≤ (r : Int) - 1) = f at *
  generalize max ((r : Int) - 1) (-1) = cm at *
  have hwrl := hrl.wk
  obtain ⟨kk, hkk⟩ : ∃ kk, wk f ((r : Int) - 1) = kk := ⟨_, rfl⟩
  rw [hkk] at hwrl
  clear ht6 hbw6 hd7 ho7 ho7' hrl
  go_wp2_with fail
  refine (walOpen_any ht7.dk (by rw [HDL.out]; omega) kk hkk (Tab.below ht hbw7)).mono ?_
  rintro e w8 ⟨p8, u8, v8, rfl, ho8, hp8, hd8, hon8, hmv8⟩
  have hbw8 := ht7.belowd hbw7 hz3 hon8
  have ht8 := ht7.d hd8 hon8 hmv8
  have hz78 := hon8.size
  have hm7 := ht7.mm.lt
  clear ht7 hbw7 hd8 hon8 hmv8 hkk
  go_wp2_with fail
  refine (ropen_any ht8.mm (by rw [HDL.out]; omega) kk hwrl).mono ?_
  rintro e w9 ⟨u9, v9, rfl, ho9, hm9, hon9, hmv9⟩
  have hbw9 := ht8.belowm hbw8 hz3 hon9
  have ht9 := ht8.m hm9 hon9 hmv9
  have ho89 := ho8.only hon9 (fun k hk _ hs => by have := hm7 k hs; omega)
  have hp9 : if okO d kk = true then ∃ gl, p8 = .pointer (some ⟨gl, 0, none⟩) ∧ Lg w9 gl g (sizeL (scanL d) : Int) else p8 = .pointer none := by
    split
    · rename_i hok
      rw [if_pos hok] at hp8
      obtain ⟨gl, e, hg, hge⟩ := hp8
      exact ⟨gl, e, hg.only hon9 fun hs => by have := hm7 gl hs; omega⟩
    · rename_i hok
      rw [if_neg hok] at hp8
      exact hp8
  clear ht8 hbw8 hm9 hon9 hmv9 ho8 hp8 hm7 hwrl
  obtain ⟨Q, hQ⟩ : ∃ Q, (if cutO d kk = true then d.take (sizeL (scanL d)) else d) = Q := ⟨_, rfl⟩
  have hQl : Q.length ≤ N + n := by
    rw [← hQ]
    split
    · rw [List.length_take, HDL.out]; omega
    · rw [HDL.out]; exact Nat.le_refl _
  rw [hQ] at ht9
  generalize (if cutO d kk = true then sizeL (scanL d) else N + n) = s9 at *
  generalize (if sizeL (scanL d) < d.length then dn f ((r : Int) - 1) else (r : Int) - 1) = cd9 at *
  generalize (if sizeL (scanL d) < d.length then dm cm else cm) = cm9 at *
  obtain ⟨z, hz⟩ : ∃ z, sizeL (scanL d) = z := ⟨_, rfl⟩
  rw [hz] at hp9 ⊢
  obtain ⟨ok, hok⟩ : ∃ ok, okO d kk = ok := ⟨_, rfl⟩
  rw [hok] at hp9 ho89 ho9 ⊢
  obtain ⟨M, hM⟩ : ∃ M, (if ok = true then scanL d else []) = M := ⟨_, rfl⟩
  rw [hM] at ho89 ho9
  obtain ⟨km, hkm⟩ : ∃ km, M.length = km := ⟨_, rfl⟩
  have hkmb : km ≤ 1000000 := by
    have h1 := scanL_size d
    have h2 := length_le_size (scanL d)
    rw [HDL.out] at h1
    rw [← hkm, ← hM]
    split
    · omega
    · simp
  obtain ⟨A8, c8, rfl, hs8, _, _⟩ := ho89.segk km hkm
  obtain ⟨A9, c9, rfl, hs9, _, _⟩ := ho9.segk km hkm
  obtain ⟨Am, cq, hv9, hsm, hlcm, hcmm⟩ := ht9.mm.own.forms
  subst hv9
  obtain ⟨nq, hnq⟩ : ∃ nq, Q.length = nq := ⟨_, rfl⟩
  have HNQ := Lib.hid hnq
  have y0 := ht9.mm.mc.h0
  rw [hnq] at y0 hsm hlcm hQl
  clear ho89 ho9 hQ hz hok hM hkm hnq
  rcases ok with _ | _
  · rw [if_neg (by simp)] at hp9
    subst hp9
    rw [if_neg (by simp), show e9 false = 9 from rfl]
    go_wp2
    refine wp_region_noPanic (wp_region_till (fun W' => W'.cell? ⟨gm, 0, none⟩ = some (.slice Am nq cq)) 30 (by kernel_rfl) ?_)
    have hD := Below.drewN' (Below.refl w9.heap.size w9) 1
    have ht10 := ht9.drewN 1
    have hs8d := hs8.below hD
    have hs9d := hs9.below hD
    have hsmd := hsm.drewN 1
    have hbw10 := Below.drewN' hbw9 1
    have y0d := cell_below hD y0
    change wpAnyT _ _ _ _ _ _ 31 _ _ (w9.drewN 1)
    clear ht9 hs8 hs9 hsm hbw9 y0 hD
    generalize w9.drewN 1 = wd at *
    refine wpAnyT_take (i := 0) (v := .int .i64 9) rfl (by kernel_rfl) (fun _ _ _ h => h) y0d (Or.inl ⟨rfl, fun W' hW => by have q0 : W'.cell? ⟨gm, 0, none⟩ = _ := hW; go_simp⟩) ?_
    refine wpAnyT_take (i := 1) (v := .int .i64 9) rfl (by kernel_rfl) (fun _ _ _ h => h) y0d (Or.inl ⟨rfl, fun W' hW => by have q0 : W'.cell? ⟨gm, 0, none⟩ = _ := hW; go_simp⟩) ?_
    refine wpAnyT_take (i := 2) (v := .bool true) rfl (by kernel_rfl) (fun _ _ _ h => h) y0d (Or.inl ⟨rfl, fun W' hW => by have q0 : W'.cell? ⟨gm, 0, none⟩ = _ := hW; go_simp⟩) ?_
    refine wpAnyT_take (i := 3) (v := .bool true) rfl (by kernel_rfl) (fun _ _ _ h => h) y0d (Or.inl ⟨rfl, fun W' hW => by have q0 : W'.cell? ⟨gm, 0, none⟩ = _ := hW; go_simp⟩) ?_
    refine wpAnyT_take (i := 4) (v := .slice A8 km c8) rfl (by kernel_rfl) (fun _ _ _ h => h) y0d (Or.inl ⟨by kernel_rfl, fun W' hW => by have q0 : W'.cell? ⟨gm, 0, none⟩ = _ := hW; go_simp⟩) ?_
    refine wpAnyT_take (i := 5) (v := .slice A9 km c9) rfl (by kernel_rfl) (fun _ _ _ h => h) y0d (Or.inl ⟨by kernel_rfl, fun W' hW => by have q0 : W'.cell? ⟨gm, 0, none⟩ = _ := hW; go_simp⟩) ?_
    refine wpAnyT_stepg 6 rfl (by decide +kernel) (by kernel_rfl) ?_
    go_wp2_with fail
    refine (same_any A8 A9 km km c8 c9 M M _ hs8d hs9d hkmb).mono ?_
    rintro e w11 ⟨rfl, u2, rfl⟩
    rw [show (M == M) = true by simp]
    have hD := Below.drewN' (Below.refl wd.heap.size wd) u2
    have ht11 := ht10.drewN u2
    have hsm11 := hsmd.drewN u2
    have hbw11 := Below.drewN' hbw10 u2
    have y011 := cell_below hD y0d
    clear ht10 hs8d hs9d hsmd hbw10 y0d hD
    generalize wd.drewN u2 = w11 at *
    go_wp2_with fail
    refine ⟨.inr y011, ?_⟩
    refine wpAnyT_take (i := 7) (v := .bool true) rfl (by kernel_rfl) (fun _ _ _ h => h) y011 (Or.inl ⟨by kernel_rfl, fun W' hW => by have q0 : W'.cell? ⟨gm, 0, none⟩ = _ := hW; go_simp⟩) ?_
    refine wpAnyT_take (i := 8) (v := .bool true) rfl (by kernel_rfl) (fun _ _ _ h => h) y011 (Or.inl ⟨by kernel_rfl, fun W' hW => by have q0 : W'.cell? ⟨gm, 0, none⟩ = _ := hW; go_simp⟩) ?_
    refine wpAnyT_take (i := 9) (v := .pointer none) rfl (by kernel_rfl) (fun _ _ _ h => h) y011 (Or.inl ⟨by kernel_rfl, fun W' hW => by have q0 : W'.cell? ⟨gm, 0, none⟩ = _ := hW; go_simp⟩) ?_
    refine wpAnyT_take (i := 10) (v := .bool true) rfl (by kernel_rfl) (fun _ _ _ h => h) y011 (Or.inl ⟨by kernel_rfl, fun W' hW => by have q0 : W'.cell? ⟨gm, 0, none⟩ = _ := hW; go_simp⟩) ?_
    refine wpAnyT_take (i := 11) (v := .int .i64 9) rfl (by kernel_rfl) (fun _ _ _ h => h) y011 (Or.inl ⟨by kernel_rfl, fun W' hW => by have q0 : W'.cell? ⟨gm, 0, none⟩ = _ := hW; go_simp⟩) ?_
    refine wpAnyT_take (i := 12) (v := .bool true) rfl (by kernel_rfl) (fun _ _ _ h => h) y011 (Or.inl ⟨by kernel_rfl, fun W' hW => by have q0 : W'.cell? ⟨gm, 0, none⟩ = _ := hW; go_simp⟩) ?_
    refine wpAnyT_take (i := 13) (v := .bool true) rfl (by kernel_rfl) (fun _ _ _ h => h) y011 (Or.inl ⟨by kernel_rfl, fun W' hW => by have q0 : W'.cell? ⟨gm, 0, none⟩ = _ := hW; go_simp⟩) ?_
    refine wpAnyT_take (i := 14) (v := .bool true) rfl (by kernel_rfl) (fun _ _ _ h => h) y011 (Or.inl ⟨by kernel_rfl, fun W' hW => by have q0 : W'.cell? ⟨gm, 0, none⟩ = _ := hW; go_simp⟩) ?_
    refine wpAnyT_take (i := 15) (v := .bool true) rfl (by kernel_rfl) (fun _ _ _ h => h) y011 (Or.inl ⟨by kernel_rfl, fun W' hW => by have q0 : W'.cell? ⟨gm, 0, none⟩ = _ := hW; go_simp⟩) ?_
    refine wpAnyT_take (i := 16) (v := .pointer none) rfl (by kernel_rfl) (fun _ _ _ h => h) y011 (Or.inl ⟨by kernel_rfl, fun W' hW => by have q0 : W'.cell? ⟨gm, 0, none⟩ = _ := hW; go_simp⟩) ?_
    refine wpAnyT_take (i := 18) (v := .int .i64 0) rfl (by kernel_rfl) (fun _ _ _ h => h) y011 (Or.inl ⟨by kernel_rfl, fun W' hW => by have q0 : W'.cell? ⟨gm, 0, none⟩ = _ := hW; go_simp⟩) ?_
    refine wpAnyT_stepg 17 rfl (by decide +kernel) (by kernel_rfl) ?_
    go_wp2_with fail
    refine (walSize_nil _).mono ?_
    rintro e w12 ⟨rfl, rfl⟩
    go_wp2_with fail
    refine ⟨.inr y011, ?_⟩
    refine wpAnyT_take (i := 19) (v := .bool true) rfl (by kernel_rfl) (fun _ _ _ h => h) y011 (Or.inl ⟨by kernel_rfl, fun W' hW => by have q0 : W'.cell? ⟨gm, 0, none⟩ = _ := hW; go_simp⟩) ?_
    refine wpAnyT_take (i := 20) (v := .bool true) rfl (by kernel_rfl) (fun _ _ _ h => h) y011 (Or.inl ⟨by kernel_rfl, fun W' hW => by have q0 : W'.cell? ⟨gm, 0, none⟩ = _ := hW; go_simp⟩) ?_
    refine wpAnyT_take (i := 21) (v := .bool true) rfl (by kernel_rfl) (fun _ _ _ h => h) y011 (Or.inl ⟨by kernel_rfl, fun W' hW => by have q0 : W'.cell? ⟨gm, 0, none⟩ = _ := hW; go_simp⟩) ?_
    refine wpAnyT_take (i := 22) (v := .pointer (some ⟨g, 0, none⟩)) rfl (by kernel_rfl) (fun _ _ _ h => h) y011 (Or.inl ⟨by kernel_rfl, fun W' hW => by have q0 : W'.cell? ⟨gm, 0, none⟩ = _ := hW; go_simp⟩) ?_
    refine wpAnyT_take (i := 24) (v := .pointer (some ⟨gm, 0, none⟩)) rfl (by kernel_rfl) (fun _ _ _ h => h) y011 (Or.inl ⟨by kernel_rfl, fun W' hW => by have q0 : W'.cell? ⟨gm, 0, none⟩ = _ := hW; go_simp⟩) ?_
    refine wpAnyT_take (i := 25) (v := .pointer (some ⟨gm, 0, none⟩)) rfl (by kernel_rfl) (fun _ _ _ h => h) y011 (Or.inl ⟨by kernel_rfl, fun W' hW => by have q0 : W'.cell? ⟨gm, 0, none⟩ = _ := hW; go_simp⟩) ?_
    refine wpAnyT_take (i := 26) (v := .pointer (some ⟨gm, 0, none⟩)) rfl (by kernel_rfl) (fun _ _ _ h => h) y011 (Or.inl ⟨by kernel_rfl, fun W' hW => by have q0 : W'.cell? ⟨gm, 0, none⟩ = _ := hW; go_simp⟩) ?_
    refine wpAnyT_take (i := 27) (v := .slice Am nq cq) rfl (by kernel_rfl) (fun _ _ _ h => h) y011 (Or.inl ⟨by kernel_rfl, fun W' hW => by have q0 : W'.cell? ⟨gm, 0, none⟩ = _ := hW; go_simp⟩) ?_
    refine wpAnyT_stepg 23 rfl (by decide +kernel) (by kernel_rfl) ?_
    go_wp2_with fail
    refine (dread_any ht11.dk (by rw [HNQ.out]; omega)).mono ?_
    rintro e w13 ⟨v13, rfl, ho13, hb13⟩
    obtain ⟨A13, c13, rfl, hs13, _, _⟩ := ho13.formsk nq HNQ.out
    have hsm13 := hsm11.below hb13
    have hbw13 := Below.next' hbw11 hb13 hbw11.size
    have y013 := cell_below hb13 y011
    clear ht11 hsm11 hbw11 y011 hb13 ho13
    go_wp2_with fail
    refine ⟨.inr y013, ?_⟩
    refine wpAnyT_stepg 28 rfl (by decide +kernel) (by kernel_rfl) ?_
    go_wp2_with fail
    refine (bytes_any A13 Am nq nq c13 cq Q Q _ hs13 hsm13 (by simp only [maxLen]; omega)).mono ?_
    rintro e w14 ⟨rfl, u3, rfl⟩
    rw [show (Q == Q) = true by simp]
    have hbw14 := Below.drewN' hbw13 u3
    have y014 : (w13.drewN u3).cell? ⟨gm, 0, none⟩ = some (.slice Am nq cq) := y013
    clear hsm13 hbw13 y013 hs13
    generalize w13.drewN u3 = w14 at *
    go_wp2_with fail
    refine ⟨.inr y014, ?_⟩
    refine wpAnyT_take (i := 29) (v := .bool true) rfl (by kernel_rfl) (fun _ _ _ h => h) y014 (Or.inl ⟨by kernel_rfl, fun W' hW => by have q0 : W'.cell? ⟨gm, 0, none⟩ = _ := hW; go_simp⟩) ?_
    refine wpAnyT_step 30 rfl (by decide +kernel) ?_
    go_wp2_with fail
    refine ⟨.inl trivial, ?_⟩
    refine wpAnyT_done (by decide +kernel) (NoPanic.normal ?_)
    clear HFL HF HD HDL HS HNQ ha ha' ht
    go_wp2
    go_ret
    exact ⟨rfl, hbw14⟩
  · rw [if_pos rfl] at hp9
    obtain ⟨gl, rfl, hlg⟩ := hp9
    rw [if_pos rfl, show e9 true = 0 from rfl]
    go_wp2
    refine wp_region_noPanic (wp_region_till (fun W' => W'.cell? ⟨gm, 0, none⟩ = some (.slice Am nq cq)) 30 (by kernel_rfl) ?_)
    have hD := Below.drewN' (Below.refl w9.heap.size w9) 1
    have ht10 := ht9.drewN 1
    have hs8d := hs8.below hD
    have hs9d := hs9.below hD
    have hsmd := hsm.drewN 1
    have hbw10 := Below.drewN' hbw9 1
    have y0d := cell_below hD y0
    have hlgd := hlg.below hD
    change wpAnyT _ _ _ _ _ _ 31 _ _ (w9.drewN 1)
    clear ht9 hs8 hs9 hsm hbw9 y0 hD hlg
    generalize w9.drewN 1 = wd at *
    refine wpAnyT_take (i := 0) (v := .int .i64 0) rfl (by kernel_rfl) (fun _ _ _ h => h) y0d (Or.inl ⟨rfl, fun W' hW => by have q0 : W'.cell? ⟨gm, 0, none⟩ = _ := hW; go_simp⟩) ?_
    refine wpAnyT_take (i := 1) (v := .int .i64 0) rfl (by kernel_rfl) (fun _ _ _ h => h) y0d (Or.inl ⟨rfl, fun W' hW => by have q0 : W'.cell? ⟨gm, 0, none⟩ = _ := hW; go_simp⟩) ?_
    refine wpAnyT_take (i := 2) (v := .bool true) rfl (by kernel_rfl) (fun _ _ _ h => h) y0d (Or.inl ⟨rfl, fun W' hW => by have q0 : W'.cell? ⟨gm, 0, none⟩ = _ := hW; go_simp⟩) ?_
    refine wpAnyT_take (i := 3) (v := .bool true) rfl (by kernel_rfl) (fun _ _ _ h => h) y0d (Or.inl ⟨rfl, fun W' hW => by have q0 : W'.cell? ⟨gm, 0, none⟩ = _ := hW; go_simp⟩) ?_
    refine wpAnyT_take (i := 4) (v := .slice A8 km c8) rfl (by kernel_rfl) (fun _ _ _ h => h) y0d (Or.inl ⟨by kernel_rfl, fun W' hW => by have q0 : W'.cell? ⟨gm, 0, none⟩ = _ := hW; go_simp⟩) ?_
    refine wpAnyT_take (i := 5) (v := .slice A9 km c9) rfl (by kernel_rfl) (fun _ _ _ h => h) y0d (Or.inl ⟨by kernel_rfl, fun W' hW => by have q0 : W'.cell? ⟨gm, 0, none⟩ = _ := hW; go_simp⟩) ?_
    refine wpAnyT_stepg 6 rfl (by decide +kernel) (by kernel_rfl) ?_
    go_wp2_with fail
    refine (same_any A8 A9 km km c8 c9 M M _ hs8d hs9d hkmb).mono ?_
    rintro e w11 ⟨rfl, u2, rfl⟩
    rw [show (M == M) = true by simp]
    have hD := Below.drewN' (Below.refl wd.heap.size wd) u2
    have ht11 := ht10.drewN u2
    have hsm11 := hsmd.drewN u2
    have hbw11 := Below.drewN' hbw10 u2
    have y011 := cell_below hD y0d
    have hlg11 := hlgd.below hD
    clear ht10 hs8d hs9d hsmd hbw10 y0d hD hlgd
    generalize wd.drewN u2 = w11 at *
    go_wp2_with fail
    refine ⟨.inr y011, ?_⟩
    refine wpAnyT_take (i := 7) (v := .bool true) rfl (by kernel_rfl) (fun _ _ _ h => h) y011 (Or.inl ⟨by kernel_rfl, fun W' hW => by have q0 : W'.cell? ⟨gm, 0, none⟩ = _ := hW; go_simp⟩) ?_
    refine wpAnyT_take (i := 8) (v := .bool true) rfl (by kernel_rfl) (fun _ _ _ h => h) y011 (Or.inl ⟨by kernel_rfl, fun W' hW => by have q0 : W'.cell? ⟨gm, 0, none⟩ = _ := hW; go_simp⟩) ?_
    refine wpAnyT_take (i := 9) (v := .pointer (some ⟨gl, 0, none⟩)) rfl (by kernel_rfl) (fun _ _ _ h => h) y011 (Or.inl ⟨by kernel_rfl, fun W' hW => by have q0 : W'.cell? ⟨gm, 0, none⟩ = _ := hW; go_simp⟩) ?_
    refine wpAnyT_take (i := 10) (v := .bool false) rfl (by kernel_rfl) (fun _ _ _ h => h) y011 (Or.inl ⟨by kernel_rfl, fun W' hW => by have q0 : W'.cell? ⟨gm, 0, none⟩ = _ := hW; go_simp⟩) ?_
    refine wpAnyT_take (i := 11) (v := .int .i64 0) rfl (by kernel_rfl) (fun _ _ _ h => h) y011 (Or.inl ⟨by kernel_rfl, fun W' hW => by have q0 : W'.cell? ⟨gm, 0, none⟩ = _ := hW; go_simp⟩) ?_
    refine wpAnyT_take (i := 12) (v := .bool false) rfl (by kernel_rfl) (fun _ _ _ h => h) y011 (Or.inl ⟨by kernel_rfl, fun W' hW => by have q0 : W'.cell? ⟨gm, 0, none⟩ = _ := hW; go_simp⟩) ?_
    refine wpAnyT_take (i := 13) (v := .bool true) rfl (by kernel_rfl) (fun _ _ _ h => h) y011 (Or.inl ⟨by kernel_rfl, fun W' hW => by have q0 : W'.cell? ⟨gm, 0, none⟩ = _ := hW; go_simp⟩) ?_
    refine wpAnyT_take (i := 14) (v := .bool true) rfl (by kernel_rfl) (fun _ _ _ h => h) y011 (Or.inl ⟨by kernel_rfl, fun W' hW => by have q0 : W'.cell? ⟨gm, 0, none⟩ = _ := hW; go_simp⟩) ?_
    refine wpAnyT_take (i := 15) (v := .bool true) rfl (by kernel_rfl) (fun _ _ _ h => h) y011 (Or.inl ⟨by kernel_rfl, fun W' hW => by have q0 : W'.cell? ⟨gm, 0, none⟩ = _ := hW; go_simp⟩) ?_
    refine wpAnyT_take (i := 16) (v := .pointer (some ⟨gl, 0, none⟩)) rfl (by kernel_rfl) (fun _ _ _ h => h) y011 (Or.inl ⟨by kernel_rfl, fun W' hW => by have q0 : W'.cell? ⟨gm, 0, none⟩ = _ := hW; go_simp⟩) ?_
    refine wpAnyT_take (i := 18) (v := .int .i64 (z : Int)) rfl (by kernel_rfl) (fun _ _ _ h => h) y011 (Or.inl ⟨by kernel_rfl, fun W' hW => by have q0 : W'.cell? ⟨gm, 0, none⟩ = _ := hW; go_simp⟩) ?_
    refine wpAnyT_stepg 17 rfl (by decide +kernel) (by kernel_rfl) ?_
    go_wp2_with fail
    refine (walSize_any hlg11).mono ?_
    rintro e w12 ⟨rfl, rfl⟩
    go_wp2_with fail
    refine ⟨.inr y011, ?_⟩
    refine wpAnyT_take (i := 19) (v := .bool true) rfl (by kernel_rfl) (fun _ _ _ h => h) y011 (Or.inl ⟨by kernel_rfl, fun W' hW => by have q0 : W'.cell? ⟨gm, 0, none⟩ = _ := hW; go_simp⟩) ?_
    refine wpAnyT_take (i := 20) (v := .bool true) rfl (by kernel_rfl) (fun _ _ _ h => h) y011 (Or.inl ⟨by kernel_rfl, fun W' hW => by have q0 : W'.cell? ⟨gm, 0, none⟩ = _ := hW; go_simp⟩) ?_
    refine wpAnyT_take (i := 21) (v := .bool true) rfl (by kernel_rfl) (fun _ _ _ h => h) y011 (Or.inl ⟨by kernel_rfl, fun W' hW => by have q0 : W'.cell? ⟨gm, 0, none⟩ = _ := hW; go_simp⟩) ?_
    refine wpAnyT_take (i := 22) (v := .pointer (some ⟨g, 0, none⟩)) rfl (by kernel_rfl) (fun _ _ _ h => h) y011 (Or.inl ⟨by kernel_rfl, fun W' hW => by have q0 : W'.cell? ⟨gm, 0, none⟩ = _ := hW; go_simp⟩) ?_
    refine wpAnyT_take (i := 24) (v := .pointer (some ⟨gm, 0, none⟩)) rfl (by kernel_rfl) (fun _ _ _ h => h) y011 (Or.inl ⟨by kernel_rfl, fun W' hW => by have q0 : W'.cell? ⟨gm, 0, none⟩ = _ := hW; go_simp⟩) ?_
    refine wpAnyT_take (i := 25) (v := .pointer (some ⟨gm, 0, none⟩)) rfl (by kernel_rfl) (fun _ _ _ h => h) y011 (Or.inl ⟨by kernel_rfl, fun W' hW => by have q0 : W'.cell? ⟨gm, 0, none⟩ = _ := hW; go_simp⟩) ?_
    refine wpAnyT_take (i := 26) (v := .pointer (some ⟨gm, 0, none⟩)) rfl (by kernel_rfl) (fun _ _ _ h => h) y011 (Or.inl ⟨by kernel_rfl, fun W' hW => by have q0 : W'.cell? ⟨gm, 0, none⟩ = _ := hW; go_simp⟩) ?_
    refine wpAnyT_take (i := 27) (v := .slice Am nq cq) rfl (by kernel_rfl) (fun _ _ _ h => h) y011 (Or.inl ⟨by kernel_rfl, fun W' hW => by have q0 : W'.cell? ⟨gm, 0, none⟩ = _ := hW; go_simp⟩) ?_
    refine wpAnyT_stepg 23 rfl (by decide +kernel) (by kernel_rfl) ?_
    go_wp2_with fail
    refine (dread_any ht11.dk (by rw [HNQ.out]; omega)).mono ?_
    rintro e w13 ⟨v13, rfl, ho13, hb13⟩
    obtain ⟨A13, c13, rfl, hs13, _, _⟩ := ho13.formsk nq HNQ.out
    have hsm13 := hsm11.below hb13
    have hbw13 := Below.next' hbw11 hb13 hbw11.size
    have y013 := cell_below hb13 y011
    clear ht11 hsm11 hbw11 y011 hb13 ho13
    go_wp2_with fail
    refine ⟨.inr y013, ?_⟩
    refine wpAnyT_stepg 28 rfl (by decide +kernel) (by kernel_rfl) ?_
    go_wp2_with fail
    refine (bytes_any A13 Am nq nq c13 cq Q Q _ hs13 hsm13 (by simp only [maxLen]; omega)).mono ?_
    rintro e w14 ⟨rfl, u3, rfl⟩
    rw [show (Q == Q) = true by simp]
    have hbw14 := Below.drewN' hbw13 u3
    have y014 : (w13.drewN u3).cell? ⟨gm, 0, none⟩ = some (.slice Am nq cq) := y013
    clear hsm13 hbw13 y013 hs13
    generalize w13.drewN u3 = w14 at *
    go_wp2_with fail
    refine ⟨.inr y014, ?_⟩
    refine wpAnyT_take (i := 29) (v := .bool true) rfl (by kernel_rfl) (fun _ _ _ h => h) y014 (Or.inl ⟨by kernel_rfl, fun W' hW => by have q0 : W'.cell? ⟨gm, 0, none⟩ = _ := hW; go_simp⟩) ?_
    refine wpAnyT_step 30 rfl (by decide +kernel) ?_
    go_wp2_with fail
    refine ⟨.inl trivial, ?_⟩
    refine wpAnyT_done (by decide +kernel) (NoPanic.normal ?_)
    clear HFL HF HD HDL HS HNQ ha ha' ht
    go_wp2
    go_ret
    exact ⟨rfl, hbw14⟩

set_option maxRecDepth 8000 in
set_option maxHeartbeats 4000000 in
theorem walOpens_long (A : Option Addr) (n c : Nat) (A' : Option Addr) (n' c' : Nat) (L : List (List UInt8)) (x : Int) (w : World) (ha' : SegL w A' n' L) (hc' : n' ≤ c') (hcm' : c' ≤ maxLen) (h : ¬ (n ≤ 60 ∧ Small L)) (ht : Tab w) :
    Calls Tryd.prog 8 #[.slice A n c, .slice A' n' c', .int .u8 x] w fun e w' => e = .returned (.bool true) ∧ Below w.heap.size w w' := by
  by_cases h1 : n ≤ 60
  · have d0 : decide ((60 : Int) < (n : Int)) = false := decide_eq_false (by omega)
    go_enter Tryd.func8, Tryd.ntmps8
    go_wp2_with fail
    refine (both_any _ ht).mono ?_
    rintro e w1 ⟨rfl, hb1⟩
    go_wp2_with fail
    refine (small_any A' n' c' L _ (ha'.below hb1) hc' hcm').mono ?_
    rintro e w0 ⟨⟨b, rfl, hb⟩, rfl⟩
    obtain rfl : b = false := by
      rcases b with _ | _
      · rfl
      · exact absurd ⟨h1, hb.1 rfl⟩ h
    clear hb
    go_wp2_with fail
    refine (both_any _ (Tab.below ht hb1)).mono ?_
    rintro e w2 ⟨rfl, hb2⟩
    go_wp2
    go_ret
    exact ⟨rfl, Below.next' hb1 hb2 hb1.size⟩
  · have d0 : decide ((60 : Int) < (n : Int)) = true := decide_eq_true (by omega)
    go_enter Tryd.func8, Tryd.ntmps8
    go_wp2_with fail
    refine (both_any _ ht).mono ?_
    rintro e w1 ⟨rfl, hb1⟩
    go_wp2_with fail
    refine (both_any _ (Tab.below ht hb1)).mono ?_
    rintro e w2 ⟨rfl, hb2⟩
    go_wp2
    go_ret
    exact ⟨rfl, Below.next' hb1 hb2 hb1.size⟩

theorem walOpens_walk (A : Option Addr) (n c : Nat) (l : List UInt8) (A' : Option Addr) (n' c' : Nat) (L : List (List UInt8)) (x : Int) (w : World) (ha : Seg w A n l) (_ : n ≤ c) (_ : c ≤ maxLen) (ha' : SegL w A' n' L) (hc' : n' ≤ c') (hcm' : c' ≤ maxLen) (hx : (Lit.int .u8 x).wf = true) (ht : Tab w) :
    Calls Tryd.prog 8 #[.slice A n c, .slice A' n' c', .int .u8 x] w fun e w' => e = .returned (.bool true) ∧ Below w.heap.size w w' := by
  by_cases hall : n ≤ 60 ∧ Small L
  · obtain ⟨k, rfl⟩ := Int.eq_ofNat_of_zero_le (bounds_u8 hx).1
    exact walOpens_core A n c l A' n' c' L k _ rfl w ha ha' hc' hcm' hall.1 hall.2 ht
  · exact walOpens_long A n c A' n' c' L x w ha' hc' hcm' hall ht

end Go.Proofs.YtkmcnkonkalfkaaDoor
