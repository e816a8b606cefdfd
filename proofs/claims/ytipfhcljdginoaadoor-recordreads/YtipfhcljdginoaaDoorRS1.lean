/-
  The document's Same of batches.
-/
import Derived.Test.YtipfhcljdginoaaDoorRB1
import Derived.Test.YtipfhcljdginoaaDoorW1
namespace Go.Proofs.YtipfhcljdginoaaDoor
open Go.RowKit

/-- Are two writes alike, two rows of them? -/
def eqW (x y : Wr6) : Bool := (x.key.toList == y.key.toList) && ((x.gone == y.gone) && (x.row == y.row))
def all2 : List Wr6 → List Wr6 → Bool
  | [], [] => true
  | x :: xs, y :: ys => eqW x y && all2 xs ys
  | _, _ => false
theorem eqW_self (x : Wr6) : eqW x x = true := by simp [eqW]
theorem all2_self : ∀ (D : List Wr6), all2 D D = true
  | [] => rfl
  | x :: xs => by rw [all2, eqW_self, all2_self xs]; rfl
theorem all2_len : ∀ (D E : List Wr6), D.length ≠ E.length → all2 D E = false
  | [], [], h => absurd rfl h
  | [], _ :: _, _ => rfl
  | _ :: _, [], _ => rfl
  | x :: xs, y :: ys, h => by rw [all2, all2_len xs ys (fun e => h (by simp [e]))]; simp
theorem all2_step {D E : List Wr6} {j : Nat} (h1 : j < D.length) (h2 : j < E.length) : all2 (D.drop j) (E.drop j) = (eqW D[j] E[j] && all2 (D.drop (j + 1)) (E.drop (j + 1))) := by
  rw [List.drop_eq_getElem_cons h1, List.drop_eq_getElem_cons h2, all2]

theorem below_drew6 {B : Nat} {a w : World} (h : Below B a w) (k : Nat) : Below B a (w.drewN k) := ⟨h.os, h.tape, h.output, h.size, h.block⟩
theorem two_new (w : World) (a b c p q r : Value) (t : TypeId) (W : World) (h : W = ((w.alloc (.cells #[a, b, c] t)).alloc (.cells #[p, q, r] t)).drew) (g1 g2 : Nat) (h1 : w.heap.size = g1) (h2 : w.heap.size + 1 = g2) :
    W.cell? ⟨g1, 0, none⟩ = some a ∧ W.cell? ⟨g1, 1, none⟩ = some b ∧ W.cell? ⟨g1, 2, none⟩ = some c ∧ W.cell? ⟨g2, 0, none⟩ = some p ∧ W.cell? ⟨g2, 1, none⟩ = some q ∧ W.cell? ⟨g2, 2, none⟩ = some r ∧ Below w.heap.size w W := by
  have hbl : Below w.heap.size w W := by rw [h]; exact (((Below.refl w.heap.size w).alloc (Nat.le_refl _) _).alloc (by simp) _).drew
  refine ⟨?_, ?_, ?_, ?_, ?_, ?_, hbl⟩
  · rw [h, ← h1]; simp
  · rw [h, ← h1]; simp
  · rw [h, ← h1]; simp
  · rw [h, ← h2]; simp
  · rw [h, ← h2]; simp
  · rw [h, ← h2]; simp

set_option maxRecDepth 8000 in
set_option maxHeartbeats 16000000 in
theorem rsame6_any (N M : Int) (A B : Option Addr) (n m c d : Nat) (D E : List Wr6) (w : World) (ha : SegW w A n D) (hb : SegW w B m E) (hn : n ≤ 9223372036854775807) :
    Calls Tryd.prog 17 #[.agg #[.int .i64 N, .slice A n c], .agg #[.int .i64 M, .slice B m d]] w fun e w' => e = .returned (.bool (decide (N = M) && all2 D E)) ∧ Below w.heap.size w w' := by
  have hln := ha.len
  have hlm := hb.len
  obtain ⟨wa, hwa⟩ : ∃ wa, wa = (w.alloc (.cells #[.int .i64 N, .slice A n c] 26)).alloc (.cells #[.int .i64 M, .slice B m d] 26) := ⟨_, rfl⟩
  obtain ⟨b0, hb0⟩ : ∃ b0, w.heap.size = b0 := ⟨_, rfl⟩
  have hba : Below w.heap.size w wa := by rw [hwa]; exact ((Below.refl _ _).alloc (Nat.le_refl _) _).alloc (by simp) _
  have x0 : wa.cell? ⟨b0, 0, none⟩ = some (.int .i64 N) := by rw [hwa, ← hb0]; simp
  have x1 : wa.cell? ⟨b0, 1, none⟩ = some (.slice A n c) := by rw [hwa, ← hb0]; simp
  have y0 : wa.cell? ⟨b0 + 1, 0, none⟩ = some (.int .i64 M) := by rw [hwa, ← hb0]; simp
  have y1 : wa.cell? ⟨b0 + 1, 1, none⟩ = some (.slice B m d) := by rw [hwa, ← hb0]; simp
  have HWA := Lib.hid hwa
  have HB0 := Lib.hid hb0
  obtain ⟨Z, hZ⟩ : ∃ Z, all2 D E = Z := ⟨_, rfl⟩
  rw [hZ]
  have HZ := Lib.hid hZ
  have HLN := Lib.hid hln
  have HLM := Lib.hid hlm
  clear hwa hb0 hZ hln hlm
  by_cases hNM : N = M
  · subst hNM
    rw [show decide (N = N) = true by simp, Bool.true_and]
    have eN : (N != N) = false := by simp
    by_cases hnm : n = m
    · subst hnm
      have en : ((n : Int) != (n : Int)) = false := by simp
      go_enter Tryd.func17, Tryd.ntmps17
      go_upto_region 1 with fail
      rw [← HWA.out, HB0.out]
      clear HWA

      go_upto_region 3 with fail
      go_wp2
      go_loopw [5, 6, 7] (fun i _ _ w' => ∃ j : Nat, j ≤ n ∧ i = .int .i64 (j : Int) ∧ Hid (all2 (D.drop j) (E.drop j) = Z) ∧ Below wa.heap.size wa w') (fun i _ _ _ => n - (intOf i).toNat)
      case atStart => exact ⟨0, by omega, rfl, by rw [List.drop_zero, List.drop_zero]; exact HZ, Below.refl _ _⟩
      case round =>
        obtain ⟨j, hj, rfl, HA2, hbw⟩ := hrel
        have x0 := cell_below hbw x0
        have x1 := cell_below hbw x1
        have y0 := cell_below hbw y0
        have y1 := cell_below hbw y1
        have hbz := Below.next' hba hbw hba.size
        have haw := ha.below hbz
        have hbw2 := hb.below hbz
        by_cases hlt : j < n
        · have h1 : j < D.length := by rw [HLN.out]; exact hlt
          have h2 : j < E.length := by rw [HLM.out]; exact hlt
          obtain ⟨g, oo, B1, m1, c1, rfl, p0, p1, p2, q1, q2, q3⟩ := haw.at_ hlt D[j] (List.getElem?_eq_getElem h1)
          obtain ⟨g', oo', B2, m2, c2, rfl, r0, r1, r2, s1, s2, s3⟩ := hbw2.at_ hlt E[j] (List.getElem?_eq_getElem h2)
          have hz := HA2.out
          rw [all2_step h1 h2] at hz
          obtain ⟨x, hx⟩ : ∃ x, D[j]'h1 = x := ⟨_, rfl⟩
          obtain ⟨y, hy⟩ : ∃ y, E[j]'h2 = y := ⟨_, rfl⟩
          rw [hx] at hz p0 p2 q1
          rw [hy] at hz r0 r2 s1
          obtain ⟨b0', hb0'⟩ : ∃ b, b = b0 := ⟨_, rfl⟩
          have HZ2 := Lib.hid hz
          obtain ⟨k1, kg, kr⟩ := x
          obtain ⟨k2, kg2, kr2⟩ := y
          clear hz hx hy h1 h2 HA2 hb0'
          dsimp only at p0 p2 q1 r0 r2 s1
          go_upto_region 6 with fail
          go_region_held3 (fun W' => W'.cell? ⟨b0, 1, none⟩ = some (.slice (some ⟨g, oo, none⟩) n c) ∧ W'.cell? ⟨b0 + 1, 1, none⟩ = some (.slice (some ⟨g', oo', none⟩) n d) ∧ W'.cell? ⟨g, oo + j * 3, none⟩ = some (.string k1) ∧ W'.cell? ⟨g, oo + j * 3 + 1, none⟩ = some (.slice B1 m1 c1) ∧ W'.cell? ⟨g, oo + j * 3 + 2, none⟩ = some (.bool kr) ∧ W'.cell? ⟨g', oo' + j * 3, none⟩ = some (.string k2) ∧ W'.cell? ⟨g', oo' + j * 3 + 1, none⟩ = some (.slice B2 m2 c2) ∧ W'.cell? ⟨g', oo' + j * 3 + 2, none⟩ = some (.bool kr2)) (go_keep) (fail)
          · rename_i hHeld
            clear hHeld
            obtain ⟨w5, hw5⟩ : ∃ w5, ((wr.alloc (.cells #[.string k1, .slice B1 m1 c1, .bool kr] 45)).alloc (.cells #[.string k2, .slice B2 m2 c2, .bool kr2] 45)).drew = w5 := ⟨_, rfl⟩
            obtain ⟨g1, hg1⟩ : ∃ g1, wr.heap.size = g1 := ⟨_, rfl⟩
            obtain ⟨g2, hg2⟩ : ∃ g2, wr.heap.size + 1 = g2 := ⟨_, rfl⟩
            obtain ⟨e0, e1, e2, f0, f1, f2, hb5⟩ := two_new wr (.string k1) (.slice B1 m1 c1) (.bool kr) (.string k2) (.slice B2 m2 c2) (.bool kr2) 45 w5 hw5.symm g1 g2 hg1 hg2
            rw [hw5, hg2, hg1]
            have t1 := q1.below hb5
            have t2 := s1.below hb5
            have hbz5 := Below.next' hbz hb5 hbz.size
            have hbw5 := Below.next' hbw hb5 hbw.size
            clear hw5 hg1 hg2 hb5 x0 x1 y0 y1 p0 p1 p2 r0 r1 r2 q1 s1 haw hbw2 hbw hbz
            cases hq1 : (k1.toList == k2.toList) with
            | false =>
              have n1 : (k1.toList != k2.toList) = true := by simp only [bne, hq1, Bool.not_false]
              obtain rfl : Z = false := by rw [← HZ2.out]; simp only [eqW, hq1, Bool.false_and]
              go_wp2
              go_ret
              exact ⟨rfl, hbz5⟩
            | true =>
              have n1 : (k1.toList != k2.toList) = false := by simp only [bne, hq1, Bool.not_true]
              cases hq2 : (kr == kr2) with
              | false =>
                have n2 : (kr != kr2) = true := by simp only [bne, hq2, Bool.not_false]
                obtain rfl : Z = false := by rw [← HZ2.out]; simp only [eqW, hq2, Bool.false_and, Bool.and_false]
                go_wp2
                go_ret
                exact ⟨rfl, hbz5⟩
              | true =>
                have n2 : (kr != kr2) = false := by simp only [bne, hq2, Bool.not_true]
                have hby := bytes_any B1 B2 m1 m2 c1 c2 kg kg2 w5 t1 t2 (by omega)
                cases hq3 : (kg == kg2) with
                | false =>
                  obtain rfl : Z = false := by rw [← HZ2.out]; simp only [eqW, hq3, Bool.false_and, Bool.and_false]
                  rw [hq3] at hby
                  have HBY := Lib.hid hby
                  clear hq3 hby
                  go_wp2_with fail
                  refine HBY.out.mono ?_
                  rintro e w6 ⟨rfl, u, rfl⟩
                  have hb6 := below_drew6 hbz5 u
                  clear HBY
                  go_wp2
                  go_ret
                  exact ⟨rfl, hb6⟩
                | true =>
                  have hz3 : all2 (D.drop (j + 1)) (E.drop (j + 1)) = Z := by
                    have h := HZ2.out
                    simp only [eqW, hq1, hq2, hq3, Bool.true_and] at h
                    exact h
                  have HZ3 := Lib.hid hz3
                  rw [hq3] at hby
                  have HBY := Lib.hid hby
                  clear hq3 hby hz3
                  go_wp2_with fail
                  refine HBY.out.mono ?_
                  rintro e w6 ⟨rfl, u, rfl⟩
                  have hb6 := below_drew6 hbw5 u
                  clear HBY
                  go_wp2
                  go_roundw
                  case rel => exact ⟨j + 1, hlt, by go_num, HZ3, hb6⟩
                  case measure => simp [intOf]; omega
          · rename_i hHeld
            clear hHeld
            obtain ⟨w5, hw5⟩ : ∃ w5, ((wr.alloc (.cells #[.string k2, .slice B2 m2 c2, .bool kr2] 45)).alloc (.cells #[.string k1, .slice B1 m1 c1, .bool kr] 45)).drew = w5 := ⟨_, rfl⟩
            obtain ⟨g1, hg1⟩ : ∃ g1, wr.heap.size = g1 := ⟨_, rfl⟩
            obtain ⟨g2, hg2⟩ : ∃ g2, wr.heap.size + 1 = g2 := ⟨_, rfl⟩
            obtain ⟨f0, f1, f2, e0, e1, e2, hb5⟩ := two_new wr (.string k2) (.slice B2 m2 c2) (.bool kr2) (.string k1) (.slice B1 m1 c1) (.bool kr) 45 w5 hw5.symm g1 g2 hg1 hg2
            rw [hw5, hg2, hg1]
            have t1 := q1.below hb5
            have t2 := s1.below hb5
            have hbz5 := Below.next' hbz hb5 hbz.size
            have hbw5 := Below.next' hbw hb5 hbw.size
            clear hw5 hg1 hg2 hb5 x0 x1 y0 y1 p0 p1 p2 r0 r1 r2 q1 s1 haw hbw2 hbw hbz
            cases hq1 : (k1.toList == k2.toList) with
            | false =>
              have n1 : (k1.toList != k2.toList) = true := by simp only [bne, hq1, Bool.not_false]
              obtain rfl : Z = false := by rw [← HZ2.out]; simp only [eqW, hq1, Bool.false_and]
              go_wp2
              go_ret
              exact ⟨rfl, hbz5⟩
            | true =>
              have n1 : (k1.toList != k2.toList) = false := by simp only [bne, hq1, Bool.not_true]
              cases hq2 : (kr == kr2) with
              | false =>
                have n2 : (kr != kr2) = true := by simp only [bne, hq2, Bool.not_false]
                obtain rfl : Z = false := by rw [← HZ2.out]; simp only [eqW, hq2, Bool.false_and, Bool.and_false]
                go_wp2
                go_ret
                exact ⟨rfl, hbz5⟩
              | true =>
                have n2 : (kr != kr2) = false := by simp only [bne, hq2, Bool.not_true]
                have hby := bytes_any B1 B2 m1 m2 c1 c2 kg kg2 w5 t1 t2 (by omega)
                cases hq3 : (kg == kg2) with
                | false =>
                  obtain rfl : Z = false := by rw [← HZ2.out]; simp only [eqW, hq3, Bool.false_and, Bool.and_false]
                  rw [hq3] at hby
                  have HBY := Lib.hid hby
                  clear hq3 hby
                  go_wp2_with fail
                  refine HBY.out.mono ?_
                  rintro e w6 ⟨rfl, u, rfl⟩
                  have hb6 := below_drew6 hbz5 u
                  clear HBY
                  go_wp2
                  go_ret
                  exact ⟨rfl, hb6⟩
                | true =>
                  have hz3 : all2 (D.drop (j + 1)) (E.drop (j + 1)) = Z := by
                    have h := HZ2.out
                    simp only [eqW, hq1, hq2, hq3, Bool.true_and] at h
                    exact h
                  have HZ3 := Lib.hid hz3
                  rw [hq3] at hby
                  have HBY := Lib.hid hby
                  clear hq3 hby hz3
                  go_wp2_with fail
                  refine HBY.out.mono ?_
                  rintro e w6 ⟨rfl, u, rfl⟩
                  have hb6 := below_drew6 hbw5 u
                  clear HBY
                  go_wp2
                  go_roundw
                  case rel => exact ⟨j + 1, hlt, by go_num, HZ3, hb6⟩
                  case measure => simp [intOf]; omega
        · obtain rfl : n = j := by omega
          have dn : decide ((n : Int) < (n : Int)) = false := by simp
          obtain rfl : Z = true := by
            rw [← HA2.out, List.drop_eq_nil_of_le (by rw [HLN.out]; exact Nat.le_refl _), List.drop_eq_nil_of_le (by rw [HLM.out]; exact Nat.le_refl _)]
            rfl
          clear haw hbw2 hbw ha hb
          go_wp2
          go_ret
          exact ⟨rfl, hbz⟩
    · have en : ((n : Int) != (m : Int)) = true := by simp only [bne_iff_ne]; omega
      obtain rfl : Z = false := by rw [← HZ.out]; exact all2_len D E (by rw [HLN.out, HLM.out]; exact hnm)
      go_enter Tryd.func17, Tryd.ntmps17
      go_upto_region 1 with fail
      rw [← HWA.out, HB0.out]
      clear HWA
      go_wp2
      go_ret
      exact ⟨rfl, hba⟩
  · have eN : (N != M) = true := by simp only [bne_iff_ne]; exact hNM
    rw [show decide (N = M) = false by simp [hNM], Bool.false_and]
    go_enter Tryd.func17, Tryd.ntmps17
    go_upto_region 1 with fail
    rw [← HWA.out, HB0.out]
    clear HWA
    go_wp2
    go_ret
    exact ⟨rfl, hba⟩

end Go.Proofs.YtipfhcljdginoaaDoor
