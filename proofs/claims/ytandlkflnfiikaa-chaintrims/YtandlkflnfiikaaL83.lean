/-
  The walk of the law ChainTrims.
-/
import Derived.Test.YtandlkflnfiikaaCH8
import Derived.Test.YtandlkflnfiikaaOpenI
import Derived.OpenShut
namespace Go.Proofs.Ytandlkflnfiikaa
open Go.RowKit

/-- Two chains side by side. -/
structure Tc (w : World) (B gc gd : Nat) (vc : Value) (Sc : List VerS) (Lc : List Ver) (lc : Int) (vd : Value) (Sd : List VerS) (Ld : List Ver) (ld : Int) : Prop where
  c : Ch w B gc vc Sc Lc lc
  d : Ch w B gd vd Sd Ld ld
  ap : ∀ k, ChS gc vc Sc k → ¬ ChS gd vd Sd k
section
variable {w w' : World} {B gc gd : Nat} {vc vd v' : Value} {Sc Sd S' : List VerS} {Lc Ld L' : List Ver} {lc ld l' : Int}
theorem Tc.below (h : Tc w B gc gd vc Sc Lc lc vd Sd Ld ld) (hb : Below w.heap.size w w') : Tc w' B gc gd vc Sc Lc lc vd Sd Ld ld := ⟨h.c.below hb, h.d.below hb, h.ap⟩
theorem Tc.drewN (h : Tc w B gc gd vc Sc Lc lc vd Sd Ld ld) (n : Nat) : Tc (w.drewN n) B gc gd vc Sc Lc lc vd Sd Ld ld := ⟨h.c.drewN n, h.d.drewN n, h.ap⟩
theorem Tc.put1 (h : Tc w B gc gd vc Sc Lc lc vd Sd Ld ld) (hc : Ch w' B gc v' S' L' l') (ho : Only w w' (DkS gc vc)) (hs : ∀ k, ChS gc v' S' k → ChS gc vc Sc k ∨ w.heap.size ≤ k) :
    Tc w' B gc gd v' S' L' l' vd Sd Ld ld :=
  ⟨hc, h.d.only ho fun k hk e => h.ap k (.inl e) hk, fun k hk hd => by
    rcases hs k hk with h1 | h1
    · exact h.ap k h1 hd
    · have := h.d.lt k hd
      omega⟩
theorem Tc.put2 (h : Tc w B gc gd vc Sc Lc lc vd Sd Ld ld) (hc : Ch w' B gd v' S' L' l') (ho : Only w w' (DkS gd vd)) (hs : ∀ k, ChS gd v' S' k → ChS gd vd Sd k ∨ w.heap.size ≤ k) :
    Tc w' B gc gd vc Sc Lc lc v' S' L' l' :=
  ⟨h.c.only ho fun k hk e => h.ap k hk (.inl e), hc, fun k hk hd => by
    rcases hs k hd with h1 | h1
    · exact h.ap k hk h1
    · have := h.c.lt k hk
      omega⟩
end
theorem trims_of {v v' : Value} {g : Nat} {S : List VerS} {n : Nat} {w : World} (h : ∀ b, v'.ownBlock = some b → v.ownBlock = some b) : ∀ k, ChS g v' (S.drop n) k → ChS g v S k ∨ w.heap.size ≤ k := fun k hk => by
  rcases hk with (hk | hk) | hk
  · exact .inl (.inl (.inl hk))
  · exact .inl (.inl (.inr (h k hk)))
  · exact .inl (.inr hk.drop)

set_option maxRecDepth 8000 in
set_option maxHeartbeats 40000000 in
theorem chainTrims_core (A : Option Addr) (n c : Nat) (L : List DAct) (x0 : Int) (A2 : Option Addr) (n2 c2 : Nat) (L2 : List Int) (w : World) (ha : SegDA w A n L) (ha2 : SegG i64Lay w A2 n2 L2) (h1 : n ≤ 40) (h2 : n2 ≤ 40)
    (hx2 : ∀ x ∈ L2, -9223372036854775808 ≤ x ∧ x ≤ 9223372036854775807) :
    Calls Try.prog 4 #[.slice A n c, .int .i64 x0, .slice A2 n2 c2] w fun e w' => e = .returned (.bool true) ∧ Below w.heap.size w w' := by
  have d0 : decide ((40 : Int) < (n : Int)) = false := decide_eq_false (by omega)
  have d1 : decide ((40 : Int) < (n2 : Int)) = false := decide_eq_false (by omega)
  obtain ⟨low, hlow⟩ : ∃ low, x0.tmod 100 = low := ⟨_, rfl⟩
  have hlow1 : -100 < low ∧ low < 100 := by
    rw [← hlow]
    have := Int.tmod_lt_of_pos x0 (show (0 : Int) < 100 by omega)
    have := Int.lt_tmod_of_pos x0 (show (0 : Int) < 100 by omega)
    omega
  have HLOW := Lib.hid hlow
  have HX2 := Lib.hid hx2
  clear hlow hx2
  go_enter Try.func4, Try.ntmps4
  go_wp2_with fail
  refine (gone_any _).mono ?_
  rintro e w1 ⟨rfl, hb1⟩
  go_wp2_with fail
  refine (cnew_any _).mono ?_
  rintro e w2 ⟨gc, rfl, hc2, hb2, hgw⟩
  clear hgw
  have hbw2 := Below.next' hb1 hb2 hb1.size
  go_wp2_with fail
  refine (cnew_any _).mono ?_
  rintro e w3 ⟨gd, rfl, hd3, hb3, hgw⟩
  clear hgw
  have hbw3 := Below.next' hbw2 hb3 hbw2.size
  have hz1 := hb1.size
  have ht3 : Tc w3 w1.heap.size gc gd (.slice none 0 0) [] [] 0 (.slice none 0 0) [] [] 0 := ⟨hc2.below hb3, hd3.mono hb2.size, fun k hk hd => by
    have := ChS.nil hk
    have := ChS.nil hd
    have := hc2.lt gc (.inl (.inl rfl))
    have := hd3.hB
    omega⟩
  clear hc2 hd3 hb1 hb2 hb3 hbw2
  go_wp2_with fail
  go_loopw [9, 10] (fun t i w' => ∃ (k a : Nat) (vc vd : Value) (Sc Sd : List VerS) (L' : List Ver), k ≤ n ∧ i = .int .i64 k ∧ t = .int .i64 a ∧ a ≤ 3 * k ∧ Tc w' w1.heap.size gc gd vc Sc L' a vd Sd L' a ∧ L'.length ≤ k ∧ (∀ x ∈ L', x.row.length ≤ 30) ∧ Below w.heap.size w w') (fun _ i _ => n - (intOf i).toNat)
  case atStart => exact ⟨0, 0, _, _, _, _, _, by omega, rfl, rfl, by omega, ht3, by simp, by simp, hbw3⟩
  case round =>
    clear ht3 hbw3
    obtain ⟨k, a, vc, vd, Sc, Sd, L', hk, rfl, rfl, hak, htw, hlk, hrow, hbw⟩ := hrel
    by_cases hlt : k < n
    · obtain ⟨x, hx⟩ : ∃ x, L[k]'(by rw [ha.len]; exact hlt) = x := ⟨_, rfl⟩
      obtain ⟨gA, oA, B, m, cB, rfl, q0, q1, q2, hsB0, hmc, hcm, hxd, _, _⟩ := ha.at_ hlt x hx
      clear hx q1
      obtain ⟨xd, xn, xp⟩ := x
      simp only at q0 hsB0 hxd
      have hgA : gA < w.heap.size := World.block_lt_of_cell? w _ q0
      have q0 := cell_below hbw q0
      have q2 := cell_below hbw q2
      have hsB := hsB0.below hbw
      by_cases hm : m ≤ 30
      · have dm : decide ((30 : Int) < (m : Int)) = false := decide_eq_false (by omega)
        obtain ⟨q, hq⟩ : ∃ q, xd % 3 = q := ⟨_, rfl⟩
        have hq3 : q < 3 := by omega
        have eq3 : (xd : Int) % 3 = (q : Int) := by omega
        have eq3t : (xd : Int).tmod 3 = (q : Int) := by rw [Int.tmod_eq_emod_of_nonneg (by omega)]; omega
        obtain ⟨y, hy⟩ : ∃ y, a + (1 + q) = y := ⟨_, rfl⟩
        have ey : (a : Int) + (1 + (q : Int)) = (y : Int) := by omega
        clear hq
        have hnc : n ≤ maxLen := by unfold maxLen; omega
        obtain ⟨w4, hw4⟩ : ∃ w4, w4 = wr := ⟨_, rfl⟩
        rw [← hw4] at q0 q2 hsB htw hbw ⊢
        clear hw4
        by_cases hB : 200 ≤ xd
        · have eB : decide ((200 : Int) ≤ (xd : Int)) = true := decide_eq_true (by omega)
          go_wp2
          refine wp_region_noPanic (wp_region_tills (fun W' => W'.cell? ⟨gA, oA + k * 3, none⟩ = some (.int .u8 (xd : Int)) ∧ W'.cell? ⟨gA, oA + k * 3 + 2, none⟩ = some (.slice B m cB)) (fun j => decide (13 ≤ j)) (by kernel_rfl) ?_)
          change wpAnyS _ _ _ _ _ _ 14 _ _ (w4.drewN 1)
          replace q0 : (w4.drewN 1).cell? ⟨gA, oA + k * 3, none⟩ = some (.int .u8 (xd : Int)) := q0
          replace q2 : (w4.drewN 1).cell? ⟨gA, oA + k * 3 + 2, none⟩ = some (.slice B m cB) := q2
          replace hsB := hsB.drewN 1
          replace htw := htw.drewN 1
          replace hbw := Below.drewP hbw 1
          generalize w4.drewN 1 = w4d at *
          refine wpAnyS_take (i := 0) (v := .pointer (some ⟨gc, 0, none⟩)) rfl (by kernel_rfl) (fun _ _ _ h => h) ⟨q0, q2⟩ (Or.inl ⟨rfl, fun W' hW => by obtain ⟨z0, z2⟩ := hW; go_simp⟩) ?_
          refine wpAnyS_take (i := 1) (v := .int .i64 (y : Int)) rfl (by kernel_rfl) (fun _ _ _ h => h) ⟨q0, q2⟩ (Or.inl ⟨rfl, fun W' hW => by obtain ⟨z0, z2⟩ := hW; go_simp⟩) ?_
          refine wpAnyS_take (i := 2) (v := .slice (some ⟨gA, oA, none⟩) n c) rfl (by kernel_rfl) (fun _ _ _ h => h) ⟨q0, q2⟩ (Or.inl ⟨rfl, fun W' hW => by obtain ⟨z0, z2⟩ := hW; go_simp⟩) ?_
          refine wpAnyS_take (i := 3) (v := .int .i64 (k : Int)) rfl (by kernel_rfl) (fun _ _ _ h => h) ⟨q0, q2⟩ (Or.inl ⟨rfl, fun W' hW => by obtain ⟨z0, z2⟩ := hW; go_simp⟩) ?_
          refine wpAnyS_take (i := 4) (v := .pointer (some ⟨gA, oA + k * 3, none⟩)) rfl (by kernel_rfl) (fun _ _ _ h => h) ⟨q0, q2⟩ (Or.inl ⟨rfl, fun W' hW => by obtain ⟨z0, z2⟩ := hW; go_simp⟩) ?_
          refine wpAnyS_take (i := 5) (v := .pointer (some ⟨gA, oA + k * 3 + 2, none⟩)) rfl (by kernel_rfl) (fun _ _ _ h => h) ⟨q0, q2⟩ (Or.inl ⟨rfl, fun W' hW => by obtain ⟨z0, z2⟩ := hW; go_simp⟩) ?_
          refine wpAnyS_take (i := 6) (v := .slice B m cB) rfl (by kernel_rfl) (fun _ _ _ h => h) ⟨q0, q2⟩ (Or.inl ⟨rfl, fun W' hW => by obtain ⟨z0, z2⟩ := hW; go_simp⟩) ?_
          refine wpAnyS_take (i := 7) (v := .slice (some ⟨gA, oA, none⟩) n c) rfl (by kernel_rfl) (fun _ _ _ h => h) ⟨q0, q2⟩ (Or.inl ⟨rfl, fun W' hW => by obtain ⟨z0, z2⟩ := hW; go_simp⟩) ?_
          refine wpAnyS_take (i := 8) (v := .int .i64 (k : Int)) rfl (by kernel_rfl) (fun _ _ _ h => h) ⟨q0, q2⟩ (Or.inl ⟨rfl, fun W' hW => by obtain ⟨z0, z2⟩ := hW; go_simp⟩) ?_
          refine wpAnyS_take (i := 9) (v := .pointer (some ⟨gA, oA + k * 3, none⟩)) rfl (by kernel_rfl) (fun _ _ _ h => h) ⟨q0, q2⟩ (Or.inl ⟨rfl, fun W' hW => by obtain ⟨z0, z2⟩ := hW; go_simp⟩) ?_
          refine wpAnyS_take (i := 10) (v := .pointer (some ⟨gA, oA + k * 3, none⟩)) rfl (by kernel_rfl) (fun _ _ _ h => h) ⟨q0, q2⟩ (Or.inl ⟨rfl, fun W' hW => by obtain ⟨z0, z2⟩ := hW; go_simp⟩) ?_
          refine wpAnyS_take (i := 11) (v := .int .u8 (xd : Int)) rfl (by kernel_rfl) (fun _ _ _ h => h) ⟨q0, q2⟩ (Or.inl ⟨rfl, fun W' hW => by obtain ⟨z0, z2⟩ := hW; go_simp⟩) ?_
          refine wpAnyS_take (i := 12) (v := .bool true) rfl (by kernel_rfl) (fun _ _ _ h => h) ⟨q0, q2⟩ (Or.inl ⟨rfl, fun W' hW => by obtain ⟨z0, z2⟩ := hW; go_simp⟩) ?_
          refine wpAnyS_step 13 rfl (by kernel_rfl) ?_
          go_wp2_with fail
          refine (cput_ok htw.c (by omega) (y : Int) (by omega) B m cB xp true hsB (by omega)).mono ?_
          rintro e wp ⟨rfl, vc', Sc', hc', hoc, hcS⟩
          have hbp := htw.c.belows hbw hoc hz1
          have htw' := htw.put1 hc' hoc hcS
          have q0' := hoc.cell q0 (fun hk => by have := htw.c.ge gA (.inl hk); omega)
          have q2' := hoc.cell q2 (fun hk => by have := htw.c.ge gA (.inl hk); omega)
          have hsB' := hsB.only hoc (fun hn0 a0 ha0 hk => by have := htw.c.ge a0.block (.inl hk); have := hsB0.lt hn0 a0 ha0; omega)
          clear htw hbw hsB q0 q2 hc' hoc hcS
          have htw := htw'; have hbw := hbp; have hsB := hsB'; have q0 := q0'; have q2 := q2'
          clear htw' hbp hsB' q0' q2'
          go_wp2_with fail
          refine ⟨.inl (by decide), ?_⟩
          refine wpAnyS_done (by kernel_rfl) (NoPanic.normal ?_)
          go_wp2
          refine wp_region_noPanic (wp_region_tills (fun W' => W'.cell? ⟨gA, oA + k * 3, none⟩ = some (.int .u8 (xd : Int)) ∧ W'.cell? ⟨gA, oA + k * 3 + 2, none⟩ = some (.slice B m cB)) (fun j => decide (13 ≤ j)) (by kernel_rfl) ?_)
          change wpAnyS _ _ _ _ _ _ 14 _ _ (wp.drewN 1)
          replace q0 : (wp.drewN 1).cell? ⟨gA, oA + k * 3, none⟩ = some (.int .u8 (xd : Int)) := q0
          replace q2 : (wp.drewN 1).cell? ⟨gA, oA + k * 3 + 2, none⟩ = some (.slice B m cB) := q2
          replace hsB := hsB.drewN 1
          replace htw := htw.drewN 1
          replace hbw := Below.drewP hbw 1
          generalize wp.drewN 1 = wpd at *
          refine wpAnyS_take (i := 0) (v := .pointer (some ⟨gd, 0, none⟩)) rfl (by kernel_rfl) (fun _ _ _ h => h) ⟨q0, q2⟩ (Or.inl ⟨rfl, fun W' hW => by obtain ⟨z0, z2⟩ := hW; go_simp⟩) ?_
          refine wpAnyS_take (i := 1) (v := .int .i64 (y : Int)) rfl (by kernel_rfl) (fun _ _ _ h => h) ⟨q0, q2⟩ (Or.inl ⟨rfl, fun W' hW => by obtain ⟨z0, z2⟩ := hW; go_simp⟩) ?_
          refine wpAnyS_take (i := 2) (v := .slice (some ⟨gA, oA, none⟩) n c) rfl (by kernel_rfl) (fun _ _ _ h => h) ⟨q0, q2⟩ (Or.inl ⟨rfl, fun W' hW => by obtain ⟨z0, z2⟩ := hW; go_simp⟩) ?_
          refine wpAnyS_take (i := 3) (v := .int .i64 (k : Int)) rfl (by kernel_rfl) (fun _ _ _ h => h) ⟨q0, q2⟩ (Or.inl ⟨rfl, fun W' hW => by obtain ⟨z0, z2⟩ := hW; go_simp⟩) ?_
          refine wpAnyS_take (i := 4) (v := .pointer (some ⟨gA, oA + k * 3, none⟩)) rfl (by kernel_rfl) (fun _ _ _ h => h) ⟨q0, q2⟩ (Or.inl ⟨rfl, fun W' hW => by obtain ⟨z0, z2⟩ := hW; go_simp⟩) ?_
          refine wpAnyS_take (i := 5) (v := .pointer (some ⟨gA, oA + k * 3 + 2, none⟩)) rfl (by kernel_rfl) (fun _ _ _ h => h) ⟨q0, q2⟩ (Or.inl ⟨rfl, fun W' hW => by obtain ⟨z0, z2⟩ := hW; go_simp⟩) ?_
          refine wpAnyS_take (i := 6) (v := .slice B m cB) rfl (by kernel_rfl) (fun _ _ _ h => h) ⟨q0, q2⟩ (Or.inl ⟨rfl, fun W' hW => by obtain ⟨z0, z2⟩ := hW; go_simp⟩) ?_
          refine wpAnyS_take (i := 7) (v := .slice (some ⟨gA, oA, none⟩) n c) rfl (by kernel_rfl) (fun _ _ _ h => h) ⟨q0, q2⟩ (Or.inl ⟨rfl, fun W' hW => by obtain ⟨z0, z2⟩ := hW; go_simp⟩) ?_
          refine wpAnyS_take (i := 8) (v := .int .i64 (k : Int)) rfl (by kernel_rfl) (fun _ _ _ h => h) ⟨q0, q2⟩ (Or.inl ⟨rfl, fun W' hW => by obtain ⟨z0, z2⟩ := hW; go_simp⟩) ?_
          refine wpAnyS_take (i := 9) (v := .pointer (some ⟨gA, oA + k * 3, none⟩)) rfl (by kernel_rfl) (fun _ _ _ h => h) ⟨q0, q2⟩ (Or.inl ⟨rfl, fun W' hW => by obtain ⟨z0, z2⟩ := hW; go_simp⟩) ?_
          refine wpAnyS_take (i := 10) (v := .pointer (some ⟨gA, oA + k * 3, none⟩)) rfl (by kernel_rfl) (fun _ _ _ h => h) ⟨q0, q2⟩ (Or.inl ⟨rfl, fun W' hW => by obtain ⟨z0, z2⟩ := hW; go_simp⟩) ?_
          refine wpAnyS_take (i := 11) (v := .int .u8 (xd : Int)) rfl (by kernel_rfl) (fun _ _ _ h => h) ⟨q0, q2⟩ (Or.inl ⟨rfl, fun W' hW => by obtain ⟨z0, z2⟩ := hW; go_simp⟩) ?_
          refine wpAnyS_take (i := 12) (v := .bool true) rfl (by kernel_rfl) (fun _ _ _ h => h) ⟨q0, q2⟩ (Or.inl ⟨rfl, fun W' hW => by obtain ⟨z0, z2⟩ := hW; go_simp⟩) ?_
          refine wpAnyS_step 13 rfl (by kernel_rfl) ?_
          go_wp2_with fail
          refine (cput_ok htw.d (by omega) (y : Int) (by omega) B m cB xp true hsB (by omega)).mono ?_
          rintro e wq ⟨rfl, vd', Sd', hd', hod, hdS⟩
          have hbq := htw.d.belows hbw hod hz1
          have htw' := htw.put2 hd' hod hdS
          have hlen' : (L' ++ [strip ⟨(y : Int), xp, true⟩]).length ≤ k + 1 := by simp; omega
          have hrow' : ∀ x ∈ L' ++ [strip ⟨(y : Int), xp, true⟩], x.row.length ≤ 30 := by
            intro x hx
            rcases List.mem_append.1 hx with hx | hx
            · exact hrow x hx
            · simp at hx; subst hx; simp [strip]
          clear htw hbw hsB q0 q2 hd' hod hdS hrow hlk
          go_wp2_with fail
          refine ⟨.inl (by decide), ?_⟩
          refine wpAnyS_done (by kernel_rfl) (NoPanic.normal ?_)
          go_wp2
          go_roundw
          case rel => exact ⟨k + 1, y, _, _, _, _, _, hlt, by go_num, rfl, by omega, htw', hlen', hrow', hbq⟩
          case measure => simp [intOf]; omega
        · have eB : decide ((200 : Int) ≤ (xd : Int)) = false := decide_eq_false (by omega)
          go_wp2
          refine wp_region_noPanic (wp_region_tills (fun W' => W'.cell? ⟨gA, oA + k * 3, none⟩ = some (.int .u8 (xd : Int)) ∧ W'.cell? ⟨gA, oA + k * 3 + 2, none⟩ = some (.slice B m cB)) (fun j => decide (13 ≤ j)) (by kernel_rfl) ?_)
          change wpAnyS _ _ _ _ _ _ 14 _ _ (w4.drewN 1)
          replace q0 : (w4.drewN 1).cell? ⟨gA, oA + k * 3, none⟩ = some (.int .u8 (xd : Int)) := q0
          replace q2 : (w4.drewN 1).cell? ⟨gA, oA + k * 3 + 2, none⟩ = some (.slice B m cB) := q2
          replace hsB := hsB.drewN 1
          replace htw := htw.drewN 1
          replace hbw := Below.drewP hbw 1
          generalize w4.drewN 1 = w4d at *
          refine wpAnyS_take (i := 0) (v := .pointer (some ⟨gc, 0, none⟩)) rfl (by kernel_rfl) (fun _ _ _ h => h) ⟨q0, q2⟩ (Or.inl ⟨rfl, fun W' hW => by obtain ⟨z0, z2⟩ := hW; go_simp⟩) ?_
          refine wpAnyS_take (i := 1) (v := .int .i64 (y : Int)) rfl (by kernel_rfl) (fun _ _ _ h => h) ⟨q0, q2⟩ (Or.inl ⟨rfl, fun W' hW => by obtain ⟨z0, z2⟩ := hW; go_simp⟩) ?_
          refine wpAnyS_take (i := 2) (v := .slice (some ⟨gA, oA, none⟩) n c) rfl (by kernel_rfl) (fun _ _ _ h => h) ⟨q0, q2⟩ (Or.inl ⟨rfl, fun W' hW => by obtain ⟨z0, z2⟩ := hW; go_simp⟩) ?_
          refine wpAnyS_take (i := 3) (v := .int .i64 (k : Int)) rfl (by kernel_rfl) (fun _ _ _ h => h) ⟨q0, q2⟩ (Or.inl ⟨rfl, fun W' hW => by obtain ⟨z0, z2⟩ := hW; go_simp⟩) ?_
          refine wpAnyS_take (i := 4) (v := .pointer (some ⟨gA, oA + k * 3, none⟩)) rfl (by kernel_rfl) (fun _ _ _ h => h) ⟨q0, q2⟩ (Or.inl ⟨rfl, fun W' hW => by obtain ⟨z0, z2⟩ := hW; go_simp⟩) ?_
          refine wpAnyS_take (i := 5) (v := .pointer (some ⟨gA, oA + k * 3 + 2, none⟩)) rfl (by kernel_rfl) (fun _ _ _ h => h) ⟨q0, q2⟩ (Or.inl ⟨rfl, fun W' hW => by obtain ⟨z0, z2⟩ := hW; go_simp⟩) ?_
          refine wpAnyS_take (i := 6) (v := .slice B m cB) rfl (by kernel_rfl) (fun _ _ _ h => h) ⟨q0, q2⟩ (Or.inl ⟨rfl, fun W' hW => by obtain ⟨z0, z2⟩ := hW; go_simp⟩) ?_
          refine wpAnyS_take (i := 7) (v := .slice (some ⟨gA, oA, none⟩) n c) rfl (by kernel_rfl) (fun _ _ _ h => h) ⟨q0, q2⟩ (Or.inl ⟨rfl, fun W' hW => by obtain ⟨z0, z2⟩ := hW; go_simp⟩) ?_
          refine wpAnyS_take (i := 8) (v := .int .i64 (k : Int)) rfl (by kernel_rfl) (fun _ _ _ h => h) ⟨q0, q2⟩ (Or.inl ⟨rfl, fun W' hW => by obtain ⟨z0, z2⟩ := hW; go_simp⟩) ?_
          refine wpAnyS_take (i := 9) (v := .pointer (some ⟨gA, oA + k * 3, none⟩)) rfl (by kernel_rfl) (fun _ _ _ h => h) ⟨q0, q2⟩ (Or.inl ⟨rfl, fun W' hW => by obtain ⟨z0, z2⟩ := hW; go_simp⟩) ?_
          refine wpAnyS_take (i := 10) (v := .pointer (some ⟨gA, oA + k * 3, none⟩)) rfl (by kernel_rfl) (fun _ _ _ h => h) ⟨q0, q2⟩ (Or.inl ⟨rfl, fun W' hW => by obtain ⟨z0, z2⟩ := hW; go_simp⟩) ?_
          refine wpAnyS_take (i := 11) (v := .int .u8 (xd : Int)) rfl (by kernel_rfl) (fun _ _ _ h => h) ⟨q0, q2⟩ (Or.inl ⟨rfl, fun W' hW => by obtain ⟨z0, z2⟩ := hW; go_simp⟩) ?_
          refine wpAnyS_take (i := 12) (v := .bool false) rfl (by kernel_rfl) (fun _ _ _ h => h) ⟨q0, q2⟩ (Or.inl ⟨rfl, fun W' hW => by obtain ⟨z0, z2⟩ := hW; go_simp⟩) ?_
          refine wpAnyS_step 13 rfl (by kernel_rfl) ?_
          go_wp2_with fail
          refine (cput_ok htw.c (by omega) (y : Int) (by omega) B m cB xp false hsB (by omega)).mono ?_
          rintro e wp ⟨rfl, vc', Sc', hc', hoc, hcS⟩
          have hbp := htw.c.belows hbw hoc hz1
          have htw' := htw.put1 hc' hoc hcS
          have q0' := hoc.cell q0 (fun hk => by have := htw.c.ge gA (.inl hk); omega)
          have q2' := hoc.cell q2 (fun hk => by have := htw.c.ge gA (.inl hk); omega)
          have hsB' := hsB.only hoc (fun hn0 a0 ha0 hk => by have := htw.c.ge a0.block (.inl hk); have := hsB0.lt hn0 a0 ha0; omega)
          clear htw hbw hsB q0 q2 hc' hoc hcS
          have htw := htw'; have hbw := hbp; have hsB := hsB'; have q0 := q0'; have q2 := q2'
          clear htw' hbp hsB' q0' q2'
          go_wp2_with fail
          refine ⟨.inl (by decide), ?_⟩
          refine wpAnyS_done (by kernel_rfl) (NoPanic.normal ?_)
          go_wp2
          refine wp_region_noPanic (wp_region_tills (fun W' => W'.cell? ⟨gA, oA + k * 3, none⟩ = some (.int .u8 (xd : Int)) ∧ W'.cell? ⟨gA, oA + k * 3 + 2, none⟩ = some (.slice B m cB)) (fun j => decide (13 ≤ j)) (by kernel_rfl) ?_)
          change wpAnyS _ _ _ _ _ _ 14 _ _ (wp.drewN 1)
          replace q0 : (wp.drewN 1).cell? ⟨gA, oA + k * 3, none⟩ = some (.int .u8 (xd : Int)) := q0
          replace q2 : (wp.drewN 1).cell? ⟨gA, oA + k * 3 + 2, none⟩ = some (.slice B m cB) := q2
          replace hsB := hsB.drewN 1
          replace htw := htw.drewN 1
          replace hbw := Below.drewP hbw 1
          generalize wp.drewN 1 = wpd at *
          refine wpAnyS_take (i := 0) (v := .pointer (some ⟨gd, 0, none⟩)) rfl (by kernel_rfl) (fun _ _ _ h => h) ⟨q0, q2⟩ (Or.inl ⟨rfl, fun W' hW => by obtain ⟨z0, z2⟩ := hW; go_simp⟩) ?_
          refine wpAnyS_take (i := 1) (v := .int .i64 (y : Int)) rfl (by kernel_rfl) (fun _ _ _ h => h) ⟨q0, q2⟩ (Or.inl ⟨rfl, fun W' hW => by obtain ⟨z0, z2⟩ := hW; go_simp⟩) ?_
          refine wpAnyS_take (i := 2) (v := .slice (some ⟨gA, oA, none⟩) n c) rfl (by kernel_rfl) (fun _ _ _ h => h) ⟨q0, q2⟩ (Or.inl ⟨rfl, fun W' hW => by obtain ⟨z0, z2⟩ := hW; go_simp⟩) ?_
          refine wpAnyS_take (i := 3) (v := .int .i64 (k : Int)) rfl (by kernel_rfl) (fun _ _ _ h => h) ⟨q0, q2⟩ (Or.inl ⟨rfl, fun W' hW => by obtain ⟨z0, z2⟩ := hW; go_simp⟩) ?_
          refine wpAnyS_take (i := 4) (v := .pointer (some ⟨gA, oA + k * 3, none⟩)) rfl (by kernel_rfl) (fun _ _ _ h => h) ⟨q0, q2⟩ (Or.inl ⟨rfl, fun W' hW => by obtain ⟨z0, z2⟩ := hW; go_simp⟩) ?_
          refine wpAnyS_take (i := 5) (v := .pointer (some ⟨gA, oA + k * 3 + 2, none⟩)) rfl (by kernel_rfl) (fun _ _ _ h => h) ⟨q0, q2⟩ (Or.inl ⟨rfl, fun W' hW => by obtain ⟨z0, z2⟩ := hW; go_simp⟩) ?_
          refine wpAnyS_take (i := 6) (v := .slice B m cB) rfl (by kernel_rfl) (fun _ _ _ h => h) ⟨q0, q2⟩ (Or.inl ⟨rfl, fun W' hW => by obtain ⟨z0, z2⟩ := hW; go_simp⟩) ?_
          refine wpAnyS_take (i := 7) (v := .slice (some ⟨gA, oA, none⟩) n c) rfl (by kernel_rfl) (fun _ _ _ h => h) ⟨q0, q2⟩ (Or.inl ⟨rfl, fun W' hW => by obtain ⟨z0, z2⟩ := hW; go_simp⟩) ?_
          refine wpAnyS_take (i := 8) (v := .int .i64 (k : Int)) rfl (by kernel_rfl) (fun _ _ _ h => h) ⟨q0, q2⟩ (Or.inl ⟨rfl, fun W' hW => by obtain ⟨z0, z2⟩ := hW; go_simp⟩) ?_
          refine wpAnyS_take (i := 9) (v := .pointer (some ⟨gA, oA + k * 3, none⟩)) rfl (by kernel_rfl) (fun _ _ _ h => h) ⟨q0, q2⟩ (Or.inl ⟨rfl, fun W' hW => by obtain ⟨z0, z2⟩ := hW; go_simp⟩) ?_
          refine wpAnyS_take (i := 10) (v := .pointer (some ⟨gA, oA + k * 3, none⟩)) rfl (by kernel_rfl) (fun _ _ _ h => h) ⟨q0, q2⟩ (Or.inl ⟨rfl, fun W' hW => by obtain ⟨z0, z2⟩ := hW; go_simp⟩) ?_
          refine wpAnyS_take (i := 11) (v := .int .u8 (xd : Int)) rfl (by kernel_rfl) (fun _ _ _ h => h) ⟨q0, q2⟩ (Or.inl ⟨rfl, fun W' hW => by obtain ⟨z0, z2⟩ := hW; go_simp⟩) ?_
          refine wpAnyS_take (i := 12) (v := .bool false) rfl (by kernel_rfl) (fun _ _ _ h => h) ⟨q0, q2⟩ (Or.inl ⟨rfl, fun W' hW => by obtain ⟨z0, z2⟩ := hW; go_simp⟩) ?_
          refine wpAnyS_step 13 rfl (by kernel_rfl) ?_
          go_wp2_with fail
          refine (cput_ok htw.d (by omega) (y : Int) (by omega) B m cB xp false hsB (by omega)).mono ?_
          rintro e wq ⟨rfl, vd', Sd', hd', hod, hdS⟩
          have hbq := htw.d.belows hbw hod hz1
          have htw' := htw.put2 hd' hod hdS
          have hlen' : (L' ++ [strip ⟨(y : Int), xp, false⟩]).length ≤ k + 1 := by simp; omega
          have hrow' : ∀ x ∈ L' ++ [strip ⟨(y : Int), xp, false⟩], x.row.length ≤ 30 := by
            intro x hx
            rcases List.mem_append.1 hx with hx | hx
            · exact hrow x hx
            · simp at hx; subst hx; simp [strip]; have := hsB0.1; omega
          clear htw hbw hsB q0 q2 hd' hod hdS hrow hlk
          go_wp2_with fail
          refine ⟨.inl (by decide), ?_⟩
          refine wpAnyS_done (by kernel_rfl) (NoPanic.normal ?_)
          go_wp2
          go_roundw
          case rel => exact ⟨k + 1, y, _, _, _, _, _, hlt, by go_num, rfl, by omega, htw', hlen', hrow', hbq⟩
          case measure => simp [intOf]; omega
      · have dm : decide ((30 : Int) < (m : Int)) = true := decide_eq_true (by omega)
        clear htw hsB
        go_wp2
        go_ret
        exact ⟨rfl, hbw⟩
    · obtain rfl : n = k := by omega
      have htm := HLOW.out
      go_wp2_with fail
      refine (ctrim_any htw.c (by omega) low).mono ?_
      rintro e w4 ⟨rfl, v4, hc4, ho4, hv4⟩
      have hbw4 := htw.c.belows hbw ho4 hz1
      have ht4 := htw.put1 hc4 ho4 (trims_of hv4)
      have HT := Lib.hid (trimN_trim L' low)
      have HG := Lib.hid (fun t (h : low ≤ t) => getV_trim (L := L') h)
      have HL := Lib.hid (show (L'.drop (trimN L' low)).length = L'.length - trimN L' low from List.length_drop)
      have hTl := trimN_le L' low
      have hrow4 : ∀ x ∈ L'.drop (trimN L' low), x.row.length ≤ 30 := fun x hx => hrow x (List.mem_of_mem_drop hx)
      obtain ⟨T, hT⟩ : ∃ T, trimN L' low = T := ⟨_, rfl⟩
      rw [hT] at HT HG HL hTl hrow4 ht4 ⊢
      obtain ⟨L4, hL4⟩ : ∃ L4, L'.drop T = L4 := ⟨_, rfl⟩
      rw [hL4] at HT HG HL hrow4 ht4
      clear htw hbw hc4 ho4 hv4 hT hL4
      go_wp2_with fail
      go_loopw [13, 14, 15, 16, 17, 18] (fun i _ _ _ _ _ w' => ∃ k : Nat, k ≤ n2 ∧ i = .int .i64 k ∧ Tc w' w1.heap.size gc gd v4 (Sc.drop T) L4 a vd Sd L' a ∧ Below w.heap.size w w') (fun i _ _ _ _ _ _ => n2 - (intOf i).toNat)
      case atStart => exact ⟨0, by omega, rfl, ht4, hbw4⟩
      case round =>
        clear ht4 hbw4
        obtain ⟨k2, hk2, rfl, htw, hbw⟩ := hrel
        by_cases hlt2 : k2 < n2
        · obtain ⟨gB, oB, rfl, p0⟩ := ha2.i64At hlt2
          obtain ⟨z, hz⟩ : ∃ z, L2[k2]'(by rw [ha2.1]; exact hlt2) = z := ⟨_, rfl⟩
          rw [hz] at p0
          have p0 := cell_below hbw p0
          obtain ⟨s, hs⟩ : ∃ s, z.tmod 100 = s := ⟨_, rfl⟩
          have hs1 : -100 < s ∧ s < 100 := by
            rw [← hs]
            have := Int.tmod_lt_of_pos z (show (0 : Int) < 100 by omega)
            have := Int.lt_tmod_of_pos z (show (0 : Int) < 100 by omega)
            omega
          clear hz
          have HP := Lib.hid p0
          clear p0
          by_cases hneg : 0 ≤ s
          · obtain ⟨kk, hkk⟩ : ∃ kk, low + s = kk := ⟨_, rfl⟩
            have dn : decide (kk < low) = false := decide_eq_false (by omega)
            have hkl : low ≤ kk := by omega
            have hge := HG.out kk hkl
            have p0 := HP.out
            obtain ⟨r, hr⟩ : ∃ r, getV L' kk = r := ⟨_, rfl⟩
            rw [hr] at hge
            have HGE := Lib.hid hge
            have HR := Lib.hid hr
            clear hge hr
            obtain ⟨rl, rb⟩ := r
            go_wp2_with fail
            refine (cget_any htw.c (by rw [HL.out]; omega) (fun x hx => by have := hrow4 x hx; omega) kk).mono ?_
            rw [HGE.out]
            rintro e w5 ⟨v5, rfl, ho5, hb5⟩
            obtain ⟨A5, c5, rfl, hs5, _, _⟩ := ho5.forms
            have ht5 := htw.below hb5
            have hbw5 := Below.next' hbw hb5 hbw.size
            clear htw hbw hb5 ho5 p0
            go_wp2_with fail
            refine (cget_any ht5.d (by omega) (fun x hx => by have := hrow x hx; omega) kk).mono ?_
            rw [HR.out]
            rintro e w6 ⟨v6, rfl, ho6, hb6⟩
            obtain ⟨A6, c6, rfl, hs6, _, hcc⟩ := ho6.forms
            have ht6 := ht5.below hb6
            have hs56 := hs5.below hb6
            have hbw6 := Below.next' hbw5 hb6 hbw5.size
            have hrl : rl.length ≤ maxLen := by omega
            clear ht5 hbw5 hb6 ho6 hs5 hcc
            have hbb : (rb != rb) = false := by simp
            go_wp2_with fail
            refine (bytes_any A5 A6 _ _ c5 c6 rl rl _ hs56 hs6 hrl).mono ?_
            rintro e w7 ⟨rfl, u, rfl⟩
            rw [show (rl == rl) = true by simp]
            have ht7 := ht6.drewN u
            have hbw7 := Below.drewP hbw6 u
            clear ht6 hbw6 hs56 hs6
            generalize w6.drewN u = w7 at *
            go_wp2
            go_roundw
            case rel => exact ⟨k2 + 1, hlt2, by go_num, ht7, hbw7⟩
            case measure => simp [intOf]; omega
          · obtain ⟨k0, hk0⟩ : ∃ k0, low + s = k0 := ⟨_, rfl⟩
            have dn : decide (k0 < low) = true := decide_eq_true (by omega)
            have es1 : k0 - low = s := by omega
            obtain ⟨kk, hkk⟩ : ∃ kk, low - s = kk := ⟨_, rfl⟩
            have hkl : low ≤ kk := by omega
            have hge := HG.out kk hkl
            have p0 := HP.out
            obtain ⟨r, hr⟩ : ∃ r, getV L' kk = r := ⟨_, rfl⟩
            rw [hr] at hge
            have HGE := Lib.hid hge
            have HR := Lib.hid hr
            clear hge hr
            obtain ⟨rl, rb⟩ := r
            go_wp2_with fail
            refine (cget_any htw.c (by rw [HL.out]; omega) (fun x hx => by have := hrow4 x hx; omega) kk).mono ?_
            rw [HGE.out]
            rintro e w5 ⟨v5, rfl, ho5, hb5⟩
            obtain ⟨A5, c5, rfl, hs5, _, _⟩ := ho5.forms
            have ht5 := htw.below hb5
            have hbw5 := Below.next' hbw hb5 hbw.size
            clear htw hbw hb5 ho5 p0
            go_wp2_with fail
            refine (cget_any ht5.d (by omega) (fun x hx => by have := hrow x hx; omega) kk).mono ?_
            rw [HR.out]
            rintro e w6 ⟨v6, rfl, ho6, hb6⟩
            obtain ⟨A6, c6, rfl, hs6, _, hcc⟩ := ho6.forms
            have ht6 := ht5.below hb6
            have hs56 := hs5.below hb6
            have hbw6 := Below.next' hbw5 hb6 hbw5.size
            have hrl : rl.length ≤ maxLen := by omega
            clear ht5 hbw5 hb6 ho6 hs5 hcc
            have hbb : (rb != rb) = false := by simp
            go_wp2_with fail
            refine (bytes_any A5 A6 _ _ c5 c6 rl rl _ hs56 hs6 hrl).mono ?_
            rintro e w7 ⟨rfl, u, rfl⟩
            rw [show (rl == rl) = true by simp]
            have ht7 := ht6.drewN u
            have hbw7 := Below.drewP hbw6 u
            clear ht6 hbw6 hs56 hs6
            generalize w6.drewN u = w7 at *
            go_wp2
            go_roundw
            case rel => exact ⟨k2 + 1, hlt2, by go_num, ht7, hbw7⟩
            case measure => simp [intOf]; omega
        · obtain rfl : n2 = k2 := by omega
          have e1 : decide ((0 : Int) ≤ (T : Int)) = true := decide_eq_true (by omega)
          have hLL : (L4.length : Int) = (L'.length : Int) - (T : Int) := by rw [HL.out]; omega
          obtain ⟨N', hN'⟩ : ∃ N', L'.length = N' := ⟨_, rfl⟩
          obtain ⟨N4, hN4⟩ : ∃ N4, L4.length = N4 := ⟨_, rfl⟩
          have hcl := clen_any htw.c
          have hdl := clen_any htw.d
          rw [hN4] at hLL hcl
          rw [hN'] at hLL hdl
          have e2 : (N' : Int) - (T : Int) = (N4 : Int) := hLL.symm
          have hl4 : L4.length ≤ 1000000 := by rw [HL.out]; omega
          have hNb : N' ≤ 40 := by omega
          have hTN : T ≤ N' := by omega
          clear hLL hN' hN4
          go_wp2_with fail
          refine hcl.mono ?_
          rintro e w5 ⟨rfl, rfl⟩
          go_wp2_with fail
          refine hdl.mono ?_
          rintro e w6 ⟨rfl, rfl⟩
          go_wp2_with fail
          refine (clast_any htw.c).mono ?_
          rintro e w7 ⟨rfl, rfl⟩
          go_wp2_with fail
          refine (clast_any htw.d).mono ?_
          rintro e w8 ⟨rfl, rfl⟩
          go_wp2_with fail
          refine (ctrim_any htw.c hl4 low).mono ?_
          rw [HT.out]
          rintro e w9 ⟨rfl, v9, _, ho9, _⟩
          have hbw9 := htw.c.belows hbw ho9 hz1
          clear htw hbw ho9 hcl hdl
          go_wp2
          go_ret
          exact ⟨rfl, hbw9⟩

set_option maxHeartbeats 4000000 in
theorem chainTrims_long (A : Option Addr) (n c : Nat) (x0 : Int) (A2 : Option Addr) (n2 c2 : Nat) (w : World) (h : ¬ (n ≤ 40 ∧ n2 ≤ 40)) :
    Calls Try.prog 4 #[.slice A n c, .int .i64 x0, .slice A2 n2 c2] w fun e w' => e = .returned (.bool true) ∧ Below w.heap.size w w' := by
  have hc : 40 < n ∨ n ≤ 40 ∧ 40 < n2 := by omega
  rcases hc with g0 | ⟨g0, g1⟩
  · have d0 : decide ((40 : Int) < (n : Int)) = true := decide_eq_true (by omega)
    go_enter Try.func4, Try.ntmps4
    go_wp2_with fail
    refine (gone_any _).mono ?_
    rintro e w1 ⟨rfl, hb1⟩
    go_wp2_with fail
    refine (gone_any _).mono ?_
    rintro e w2 ⟨rfl, hb2⟩
    go_wp2
    go_ret
    exact ⟨rfl, Below.next' hb1 hb2 hb1.size⟩
  · have d0 : decide ((40 : Int) < (n : Int)) = false := decide_eq_false (by omega)
    have d1 : decide ((40 : Int) < (n2 : Int)) = true := decide_eq_true (by omega)
    go_enter Try.func4, Try.ntmps4
    go_wp2_with fail
    refine (gone_any _).mono ?_
    rintro e w1 ⟨rfl, hb1⟩
    go_wp2_with fail
    refine (gone_any _).mono ?_
    rintro e w2 ⟨rfl, hb2⟩
    go_wp2
    go_ret
    exact ⟨rfl, Below.next' hb1 hb2 hb1.size⟩

theorem chainTrims_walk (A : Option Addr) (n c : Nat) (L : List DAct) (x0 : Int) (A2 : Option Addr) (n2 c2 : Nat) (L2 : List Int) (w : World) (ha : SegDA w A n L) (_ : n ≤ c) (_ : c ≤ maxLen) (_ : (Lit.int .i64 x0).wf = true) (ha2 : SegG i64Lay w A2 n2 L2) (_ : n2 ≤ c2) (_ : c2 ≤ maxLen)
    (hx2 : ∀ x ∈ L2, -9223372036854775808 ≤ x ∧ x ≤ 9223372036854775807) :
    Calls Try.prog 4 #[.slice A n c, .int .i64 x0, .slice A2 n2 c2] w fun e w' => e = .returned (.bool true) ∧ Below w.heap.size w w' := by
  by_cases h : n ≤ 40 ∧ n2 ≤ 40
  · exact chainTrims_core A n c L x0 A2 n2 c2 L2 w ha ha2 h.1 h.2 hx2
  · exact chainTrims_long A n c x0 A2 n2 c2 w h

end Go.Proofs.Ytandlkflnfiikaa
