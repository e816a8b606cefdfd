/-
  The program's Decode.
-/
import Derived.Test.YtipfhcljdginoaaDoorRA5
namespace Go.Proofs.YtipfhcljdginoaaDoor
open Go.RowKit

/-- What Decode tells: the number, the writes, the place, the error. -/
def decP (l : List UInt8) : Nat × List Wr6 × Nat × Nat :=
  match rbatch l with
  | .bad p x => (0, [], p, if x = 3 then 3 else 2)
  | .ok r _ => (r.1, r.2, 0, 0)

set_option maxRecDepth 8000 in
set_option maxHeartbeats 8000000 in
theorem decode_any (A : Option Addr) (n c : Nat) (l : List UInt8) (w : World) (ha : Seg w A n l) (hnc : n ≤ c) (hcm : c ≤ maxLen) (hn : n ≤ 1000000) (hE : Ety w) :
    Calls Tryd.prog 12 #[.slice A n c] w fun e w' => ∃ v, e = .returned (.tuple #[.agg #[.int .i64 ((decP l).1 : Int), v], .int .i64 ((decP l).2.2.1 : Int), .int .i64 ((decP l).2.2.2 : Int)]) ∧ OwnW w' w.heap.size v (decP l).2.1 ∧ Below w.heap.size w w' := by
  obtain ⟨wa, hwa⟩ : ∃ wa, wa = (w.alloc (.cells #[.int .i64 0, .slice none 0 0] 26)).alloc (.cells #[.slice A n c, .int .i64 0] 60) := ⟨_, rfl⟩
  obtain ⟨b0, hb0⟩ : ∃ b0, w.heap.size = b0 := ⟨_, rfl⟩
  have hba : Below w.heap.size w wa := by rw [hwa]; exact ((Below.refl _ _).alloc (Nat.le_refl _) _).alloc (by simp) _
  have x0 : wa.cell? ⟨b0, 0, none⟩ = some (.int .i64 0) := by rw [hwa, ← hb0]; simp
  have x1 : wa.cell? ⟨b0, 1, none⟩ = some (.slice none 0 0) := by rw [hwa, ← hb0]; simp
  have xf : ∀ j, wa.frozen? ⟨b0, j, none⟩ = false := fun j => by rw [hwa, ← hb0]; simp
  have r0 : wa.cell? ⟨b0 + 1, 0, none⟩ = some (.slice A n c) := by rw [hwa, ← hb0]; simp
  have r1 : wa.cell? ⟨b0 + 1, 1, none⟩ = some (.int .i64 0) := by rw [hwa, ← hb0]; simp
  have rf : wa.frozen? ⟨b0 + 1, 1, none⟩ = false := by rw [hwa, ← hb0]; simp
  have hz : wa.heap.size = b0 + 2 := by rw [hwa, ← hb0]; simp
  have hre : Re wa (b0 + 1) A n c l 0 := ⟨⟨r0, r1, rf⟩, ha.below hba, fun hn a hA => by have := ha.lt hn a hA; omega, hn, hnc, hcm, by omega⟩
  have hbat := batR_any hre
  have hEa := hE.below hba
  have HE0 := Lib.hid hE
  have HWA := Lib.hid hwa
  have HB0 := Lib.hid hb0
  unfold decP
  generalize rbatch l = R at *
  clear hwa r0 r1 rf hre hE
  rcases R with ⟨p, x⟩ | ⟨⟨N, D⟩, k⟩
  · simp only [BatR, metV] at hbat ⊢
    have htl := fun W (h : Ety W) => tell_any (p : Nat) (x : Nat) W h
    unfold metV at htl
    have HTL := Lib.hid htl
    obtain ⟨y, hy⟩ : ∃ y : Nat, (if x = 3 then 3 else 2) = y := ⟨_, rfl⟩
    have hyi : (if ((x : Nat) : Int) = 3 then (3 : Int) else 2) = (y : Int) := by
      rw [← hy]
      by_cases h3 : x = 3
      · rw [if_pos h3, if_pos (by omega)]; rfl
      · rw [if_neg h3, if_neg (by omega)]; rfl
    rw [hy]
    have HYI := Lib.hid hyi
    clear htl hy hyi
    go_enter Tryd.func12, Tryd.ntmps12
    go_wp2_with fail
    rw [← HWA.out]
    refine hbat.mono ?_
    rintro e w1 ⟨rfl, ho1⟩
    have hbw1 := ho1.below hba (fun k e => by have e : k = b0 + 1 := e; omega) hba.size
    have x01 := ho1.cell x0 (show ¬ b0 = b0 + 1 by omega)
    have x11 := ho1.cell x1 (show ¬ b0 = b0 + 1 by omega)
    have xf1 := fun j => (ho1.froz x0 (show ¬ b0 = b0 + 1 by omega) ⟨b0, j, none⟩ rfl).trans (xf j)
    have hE1 : Ety w1 := ho1.cell hEa (fun e => by have := World.block_lt_of_cell? w _ HE0.out; omega)
    have hbo : Below w1.heap.size w1 (w1.alloc (.cells #[.int .i64 0, .slice none 0 0] 26)) := (Below.refl _ _).alloc (Nat.le_refl _) _
    have hE2 := hE1.below hbo
    have x02 := cell_below hbo x01
    have x12 := cell_below hbo x11
    have hbl1 : b0 < w1.heap.size := World.block_lt_of_cell? w1 _ x01
    have xf2 : ∀ j, (w1.alloc (.cells #[.int .i64 0, .slice none 0 0] 26)).frozen? ⟨b0, j, none⟩ = false := fun j => ((bcell hbo).2 b0 j hbl1).trans (xf1 j)
    have hbw2 := Below.next' hbw1 hbo hbw1.size
    clear hb0 hbat x0 x1 xf x01 x11 xf1 ho1 hEa hE1 hbo hbw1 hba hz HE0 HWA
    go_wp2_with fail
    generalize w1.alloc (.cells #[.int .i64 0, .slice none 0 0] 26) = w2 at *
    refine (HTL.out w2 hE2).mono ?_
    rw [HYI.out]
    rintro e w3 ⟨rfl, hb3⟩
    have x03 := cell_below hb3 x02
    have x13 := cell_below hb3 x12
    have hbl2 : b0 < w2.heap.size := World.block_lt_of_cell? w2 _ x02
    have f0 : w3.frozen? ⟨b0, 0, none⟩ = false := ((bcell hb3).2 b0 0 hbl2).trans (xf2 0)
    have f1 : w3.frozen? ⟨b0, 1, none⟩ = false := ((bcell hb3).2 b0 1 hbl2).trans (xf2 1)
    have hbw3 := Below.next' hbw2 hb3 hbw2.size
    obtain ⟨y0, y1, hset⟩ := twoset x03 x13 (.int .i64 0) (.slice none 0 0)
    have hfin := hset.below hbw3 (fun k e => by have e : k = b0 := e; have := HB0.out; omega) hbw3.size
    clear x02 x12 xf2 hbw2 hb3 hE2 HTL HYI
    go_wp2
    refine bodyPost_ret (v := .tuple #[.agg #[.int .i64 0, .slice none 0 0], .int .i64 (p : Nat), .int .i64 (y : Nat)]) (by simp [results, Tryd.results12, go_sem, y0, y1]) rfl ⟨_, rfl, OwnW.nil _ _, hfin⟩
  · simp only [BatR] at hbat ⊢
    go_enter Tryd.func12, Tryd.ntmps12
    go_wp2_with fail
    rw [← HWA.out]
    refine hbat.mono ?_
    rintro e w1 ⟨v1, rfl, hv1, ho1⟩
    have hbw1 := ho1.below hba (fun k e => by have e : k = b0 + 1 := e; omega) hba.size
    have x01 := ho1.cell x0 (show ¬ b0 = b0 + 1 by omega)
    have x11 := ho1.cell x1 (show ¬ b0 = b0 + 1 by omega)
    have xf1 := fun j => (ho1.froz x0 (show ¬ b0 = b0 + 1 by omega) ⟨b0, j, none⟩ rfl).trans (xf j)
    have hza : wa.heap.size = b0 + 2 := hz
    have hbl1 : b0 < w1.heap.size := World.block_lt_of_cell? w1 _ x01
    have hne1 : b0 ≠ w1.heap.size := by omega
    obtain ⟨A1, c1, rfl, _, _, _⟩ := hv1.seg
    obtain ⟨q, hq⟩ : ∃ q, D.length = q := ⟨_, rfl⟩
    rw [hq] at hv1 ⊢
    clear hb0 hbat x0 x1 xf ho1 hba hq HE0 hEa HWA
    have f0 := xf1 0
    have f1 := xf1 1
    go_wp2
    obtain ⟨y0, y1, hset⟩ := twoset x01 x11 (.int .i64 (N : Int)) (.slice A1 q c1)
    have z0 := cell_alloc (.cells #[.int .i64 (N : Int), .slice A1 q c1] 26) y0
    have z1 := cell_alloc (.cells #[.int .i64 (N : Int), .slice A1 q c1] 26) y1
    have hfin := hset.below hbw1 (fun k e => by have e : k = b0 := e; have := HB0.out; omega) hbw1.size
    have hv2 := (hv1.only hset (fun k h1 _ e => by have e : k = b0 := e; omega)).mono (b := w.heap.size) (by have := HB0.out; omega)
    refine bodyPost_ret (v := .tuple #[.agg #[.int .i64 (N : Int), .slice A1 q c1], .int .i64 0, .int .i64 0]) (by simp [results, Tryd.results12, go_sem, z0, z1]) rfl ⟨_, rfl, hv2.below ((Below.refl _ _).alloc (Nat.le_refl _) _), hfin.alloc hfin.size _⟩

end Go.Proofs.YtipfhcljdginoaaDoor
