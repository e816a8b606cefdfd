/-
  The document's Right, and the laws' example.
-/
import Derived.Test.YtipfhcljdginoaaDoorRB1
namespace Go.Proofs.YtipfhcljdginoaaDoor
open Go.RowKit

/-- What the document asks of a write behind the first. -/
theorem rightL_doc {x : Wr6} {last : ByteArray} : (sle x.key last || !szW x) = (decide (x.key.size < 1) || (decide (4000 < x.key.size) || (decide (4000 < x.row.length) || ((x.gone && decide (0 < x.row.length)) || sle x.key last)))) := by
  by_cases h : x.key.size < 1
  · rw [sle_short h, decide_eq_true h]
    simp
  · rw [decide_eq_false h]
    unfold szW
    by_cases h1 : x.key.size ≤ 4000
    · by_cases h2 : x.row.length ≤ 4000
      · have e1 : ¬ 4000 < x.key.size := by omega
        have e2 : ¬ 4000 < x.row.length := by omega
        simp only [decide_eq_true h1, decide_eq_true h2, decide_eq_false e1, decide_eq_false e2]
        generalize (x.gone && decide (0 < x.row.length)) = a
        generalize sle x.key last = b
        revert a b
        decide
      · have e2 : 4000 < x.row.length := by omega
        simp [h2, e2]
    · have e1 : 4000 < x.key.size := by omega
      simp [h1, e1]

/-- The key ahead of place j. -/
def PrevK (D : List Wr6) (j : Nat) (last : ByteArray) : Prop := (j = 0 → last = ⟨#[]⟩) ∧ ∀ i y, j = i + 1 → D[i]? = some y → last = y.key
theorem PrevK.zero (D : List Wr6) : PrevK D 0 ⟨#[]⟩ := ⟨fun _ => rfl, fun i y h => by omega⟩
theorem PrevK.succ {D : List Wr6} {j : Nat} {x : Wr6} {k : ByteArray} (hx : D[j]? = some x) (hk : x.key = k) : PrevK D (j + 1) k := ⟨fun h => by omega, fun i y h hy => by
  obtain rfl : i = j := by omega
  rw [hx] at hy
  injection hy with hy
  rw [← hy, hk]⟩

set_option maxRecDepth 8000 in
set_option maxHeartbeats 8000000 in
theorem rright_any (N : Int) (A : Option Addr) (n c : Nat) (D : List Wr6) (w : World) (ha : SegW w A n D) (hn : n ≤ 1000000) :
    Calls Tryd.prog 20 #[.agg #[.int .i64 N, .slice A n c]] w fun e w' => e = .returned (.bool (rightB N D)) ∧ Below w.heap.size w w' := by
  have hl := ha.len
  have hb1 : Below w.heap.size w (w.alloc (.cells #[.int .i64 N, .slice A n c] 26)) := (Below.refl _ w).alloc (Nat.le_refl _) _
  have h1 := ha.below hb1
  have hcell : (w.alloc (.cells #[.int .i64 N, .slice A n c] 26)).cell? ⟨w.heap.size, 1, none⟩ = some (.slice A n c) := by simp
  have hbsz : w.heap.size < (w.alloc (.cells #[.int .i64 N, .slice A n c] 26)).heap.size := by simp
  unfold rightB
  rw [hl]
  by_cases g0 : N < 1
  · rw [decide_eq_true g0]
    have d0 : decide (N < 1) = true := decide_eq_true g0
    go_enter Tryd.func20, Tryd.ntmps20
    go_wp2
    go_ret
    exact ⟨rfl, hb1⟩
  · rw [decide_eq_false g0]
    have d0 : decide (N < 1) = false := decide_eq_false g0
    by_cases g1 : n < 1
    · rw [decide_eq_true g1]
      have d1 : decide ((n : Int) < 1) = true := decide_eq_true (by omega)
      go_enter Tryd.func20, Tryd.ntmps20
      go_wp2
      go_ret
      exact ⟨rfl, hb1⟩
    · rw [decide_eq_false g1]
      have d1 : decide ((n : Int) < 1) = false := decide_eq_false (by omega)
      by_cases g2 : 64 < n
      · rw [decide_eq_true g2]
        have d2 : decide ((64 : Int) < (n : Int)) = true := decide_eq_true (by omega)
        go_enter Tryd.func20, Tryd.ntmps20
        go_wp2
        go_ret
        exact ⟨rfl, hb1⟩
      · rw [decide_eq_false g2]
        have d2 : decide ((64 : Int) < (n : Int)) = false := decide_eq_false (by omega)
        simp only [Bool.or_false, Bool.not_false, Bool.true_and]
        obtain ⟨Z, hZ⟩ : ∃ Z, rightL ⟨#[]⟩ D = Z := ⟨_, rfl⟩
        rw [hZ]
        have HZ0 := Lib.hid (show rightL ⟨#[]⟩ (D.drop 0) = Z from hZ)
        have HL := Lib.hid hl
        clear hZ ha hl
        go_enter Tryd.func20, Tryd.ntmps20
        go_wp2_with fail
        generalize w.alloc (.cells #[.int .i64 N, .slice A n c] 26) = w1 at *
        go_loopw [3, 4] (fun i _ w' => ∃ (j : Nat) (last : ByteArray), j ≤ n ∧ i = .int .i64 j ∧ Hid (rightL last (D.drop j) = Z) ∧ PrevK D j last ∧ SegW w' A n D ∧ w'.cell? ⟨w.heap.size, 1, none⟩ = some (.slice A n c) ∧ Below w.heap.size w w') (fun i _ _ => n - (intOf i).toNat)
        case atStart => exact ⟨0, ⟨#[]⟩, by omega, rfl, HZ0, PrevK.zero D, h1, hcell, hb1⟩
        case round =>
          clear h1 hb1 hcell HZ0 hbsz
          obtain ⟨j, last, hj, rfl, HZ, ⟨hl0, hl1⟩, hs, hcell, hbw⟩ := hrel
          by_cases hlt : j < n
          · obtain ⟨x, hx⟩ : ∃ x, D[j]? = some x := ⟨_, List.getElem?_eq_getElem (by rw [HL.out]; exact hlt)⟩
            obtain ⟨p, o, B, m, cB, rfl, c0, c1, c2, hsB, _, _⟩ := SegW.at_ hs hlt x hx
            have hz := HZ.out
            rw [rightL_at hx, rightL_doc, hsB.1] at hz
            have hba : Below wr.heap.size wr (wr.alloc (.cells #[.string x.key, .slice B m cB, .bool x.gone] 45)) := (Below.refl _ _).alloc (Nat.le_refl _) _
            have hs2 := hs.below hba
            have hbw2 := Below.next' hbw hba hbw.size
            have hcell2 := cell_below hba hcell
            have y0 : (wr.alloc (.cells #[.string x.key, .slice B m cB, .bool x.gone] 45)).cell? ⟨wr.heap.size, 0, none⟩ = some (.string x.key) := by simp
            have y1 : (wr.alloc (.cells #[.string x.key, .slice B m cB, .bool x.gone] 45)).cell? ⟨wr.heap.size, 1, none⟩ = some (.slice B m cB) := by simp
            have y2 : (wr.alloc (.cells #[.string x.key, .slice B m cB, .bool x.gone] 45)).cell? ⟨wr.heap.size, 2, none⟩ = some (.bool x.gone) := by simp
            obtain ⟨q, hq⟩ : ∃ q, x.key.size = q := ⟨_, rfl⟩
            rw [hq] at hz
            have hprev : ∀ i y, j = i + 1 → D[i]? = some y → wr.cell? ⟨p, o + i * 3, none⟩ = some (.string y.key) := fun i y e hy => by
              obtain ⟨p', o', _, _, _, e', c0', _⟩ := SegW.at_ hs (show i < n by omega) y hy
              injection e' with e'
              injection e' with e1 e2
              rw [e1, e2]
              exact c0'
            obtain ⟨gn, hgn⟩ : ∃ gn, x.gone = gn := ⟨_, rfl⟩
            obtain ⟨ky, hky⟩ : ∃ ky, x.key = ky := ⟨_, rfl⟩
            rw [hgn] at hba y0 y1 y2 hs2 hbw2 hcell2 hz
            rw [hky] at hba y0 y1 y2 hs2 hbw2 hcell2 hz c0
            rw [hgn] at c2
            rw [hky] at hq
            have HX := Lib.hid hx
            have HKY := Lib.hid hky
            have HZ2 := Lib.hid hz
            have HB := Lib.hid hba
            have HPV := Lib.hid hprev
            clear hs hbw HZ hsB hx hgn hky hz hba hprev
            have hbl := World.block_lt_of_cell? wr _ hcell
            obtain ⟨w4, hw4⟩ : ∃ w4, w4 = wr.alloc (.cells #[.string ky, .slice B m cB, .bool gn] 45) := ⟨_, rfl⟩
            have HW4 := Lib.hid hw4
            obtain ⟨b4, hb4⟩ : ∃ b, wr.heap.size = b := ⟨_, rfl⟩
            have HB4 := Lib.hid hb4
            rw [← hw4] at y0 y1 y2 hs2 hbw2 hcell2
            rw [hb4] at y0 y1 y2
            clear hw4 hb4
            go_upto_region 7 with fail
            rw [← HW4.out, HB4.out]
            have cp := fun i y e hy => cell_below (show Below wr.heap.size wr w4 by rw [HW4.out]; exact HB.out) (HPV.out i y e hy)
            have HCP := Lib.hid cp
            clear c0 c1 c2 hcell cp HPV HB HB4
            by_cases q1 : q < 1
            · skip
              have e1 : decide ((q : Int) < 1) = true := decide_eq_true (by omega)
              have hz := HZ2.out
              rw [decide_eq_true q1] at hz
              simp only [Bool.true_or, if_true] at hz
              subst hz
              clear HZ2 hs2
              go_quiet (fail)
              have hbf : Below w.heap.size w (w4.drewN nq) := ⟨hbw2.os, hbw2.tape, hbw2.output, hbw2.size, hbw2.block⟩
              go_wp2
              go_ret
              exact ⟨rfl, hbf⟩
            have e1 : decide ((q : Int) < 1) = false := decide_eq_false (by omega)
            by_cases q2 : 4000 < q
            · skip
              have e2 : decide ((4000 : Int) < (q : Int)) = true := decide_eq_true (by omega)
              have hz := HZ2.out
              rw [decide_eq_true q2] at hz
              simp only [Bool.true_or, Bool.or_true, if_true] at hz
              subst hz
              clear HZ2 hs2
              go_quiet (fail)
              have hbf : Below w.heap.size w (w4.drewN nq) := ⟨hbw2.os, hbw2.tape, hbw2.output, hbw2.size, hbw2.block⟩
              go_wp2
              go_ret
              exact ⟨rfl, hbf⟩
            have e2 : decide ((4000 : Int) < (q : Int)) = false := decide_eq_false (by omega)
            by_cases q3 : 4000 < m
            · skip
              have e3 : decide ((4000 : Int) < (m : Int)) = true := decide_eq_true (by omega)
              have hz := HZ2.out
              rw [decide_eq_true q3] at hz
              simp only [Bool.true_or, Bool.or_true, if_true] at hz
              subst hz
              clear HZ2 hs2
              go_quiet (fail)
              have hbf : Below w.heap.size w (w4.drewN nq) := ⟨hbw2.os, hbw2.tape, hbw2.output, hbw2.size, hbw2.block⟩
              go_wp2
              go_ret
              exact ⟨rfl, hbf⟩
            have e3 : decide ((4000 : Int) < (m : Int)) = false := decide_eq_false (by omega)
            by_cases q4 : (gn && decide (0 < m)) = true
            · obtain ⟨q5, q6⟩ : gn = true ∧ 0 < m := by simpa using q4
              subst q5
              have e4 : decide ((0 : Int) < (m : Int)) = true := decide_eq_true (by omega)
              have hz := HZ2.out
              rw [q4] at hz
              simp only [Bool.true_or, Bool.or_true, if_true] at hz
              clear q4
              subst hz
              clear HZ2 hs2
              go_quiet (fail)
              have hbf : Below w.heap.size w (w4.drewN nq) := ⟨hbw2.os, hbw2.tape, hbw2.output, hbw2.size, hbw2.block⟩
              go_wp2
              go_ret
              exact ⟨rfl, hbf⟩
            have q4' : (gn && decide (0 < m)) = false := by simpa using q4
            have hz0 := HZ2.out
            rw [decide_eq_false q1, decide_eq_false q2, decide_eq_false q3, q4'] at hz0
            simp only [Bool.false_or] at hz0
            have HZ3 := Lib.hid hz0
            clear HZ2 hz0 q4
            have hgn2 : gn = false ∨ gn = true ∧ m = 0 := by
              rcases gn with _ | _
              · exact .inl rfl
              · simp at q4'; exact .inr ⟨rfl, by omega⟩
            clear q4'
            rcases j with _ | i
            · have hz := HZ3.out
              rw [hl0 rfl, sle_nil, hq, decide_eq_false q1] at hz
              simp only [Bool.false_eq_true, if_false] at hz
              have HZ4 := Lib.hid hz
              have d3 : ((0 : Nat) : Int) = 0 := rfl
              clear HZ3 hz hl0 hl1 HCP
              rcases hgn2 with rfl | ⟨rfl, rfl⟩
              · skip
                go_quiet (fail)
                have hbf : Below w.heap.size w (w4.drewN nq) := ⟨hbw2.os, hbw2.tape, hbw2.output, hbw2.size, hbw2.block⟩
                have hsf := hs2.below (w' := w4.drewN nq) ⟨rfl, rfl, rfl, Nat.le_refl _, fun _ _ => rfl⟩
                have hcf : (w4.drewN nq).cell? ⟨w.heap.size, 1, none⟩ = some (.slice (some ⟨p, o, none⟩) n c) := hcell2
                clear hbw2 hs2 hcell2 y0 y1 y2
                generalize w4.drewN nq = w5 at *
                go_wp2
                go_roundw
                case rel => exact ⟨1, ky, hlt, by go_num, HZ4, PrevK.succ HX.out HKY.out, hsf, hcf, hbf⟩
                case measure => simp [intOf]; omega
              · skip
                go_quiet (fail)
                have hbf : Below w.heap.size w (w4.drewN nq) := ⟨hbw2.os, hbw2.tape, hbw2.output, hbw2.size, hbw2.block⟩
                have hsf := hs2.below (w' := w4.drewN nq) ⟨rfl, rfl, rfl, Nat.le_refl _, fun _ _ => rfl⟩
                have hcf : (w4.drewN nq).cell? ⟨w.heap.size, 1, none⟩ = some (.slice (some ⟨p, o, none⟩) n c) := hcell2
                clear hbw2 hs2 hcell2 y0 y1 y2
                generalize w4.drewN nq = w5 at *
                go_wp2
                go_roundw
                case rel => exact ⟨1, ky, hlt, by go_num, HZ4, PrevK.succ HX.out HKY.out, hsf, hcf, hbf⟩
                case measure => simp [intOf]; omega
            · obtain ⟨y, hy⟩ : ∃ y, D[i]? = some y := ⟨_, List.getElem?_eq_getElem (by rw [HL.out]; omega)⟩
              have hlast := hl1 i y rfl hy
              have cy := HCP.out i y rfl hy
              rw [← hlast] at cy
              have d3 : decide ((0 : Int) < ((i + 1 : Nat) : Int)) = true := decide_eq_true (by omega)
              have d4 : ((i + 1 : Nat) : Int) - 1 = (i : Int) := by omega
              clear hl0 hl1 hlast hy HCP
              by_cases hle : sle ky last = true
              · have hle' : (Op.bytesLess ky.toList last.toList || ky.toList == last.toList) = true := hle
                have hz := HZ3.out
                rw [hle, if_pos rfl] at hz
                subst hz
                clear HZ3 hs2 hle
                rcases hgn2 with rfl | ⟨rfl, rfl⟩
                · skip
                  go_quiet (fail)
                  have hbf : Below w.heap.size w (w4.drewN nq) := ⟨hbw2.os, hbw2.tape, hbw2.output, hbw2.size, hbw2.block⟩
                  go_wp2
                  go_ret
                  exact ⟨rfl, hbf⟩
                · skip
                  go_quiet (fail)
                  have hbf : Below w.heap.size w (w4.drewN nq) := ⟨hbw2.os, hbw2.tape, hbw2.output, hbw2.size, hbw2.block⟩
                  go_wp2
                  go_ret
                  exact ⟨rfl, hbf⟩
              · have hle' : (Op.bytesLess ky.toList last.toList || ky.toList == last.toList) = false := by simpa [sle] using hle
                have hz := HZ3.out
                rw [if_neg hle] at hz
                have HZ4 := Lib.hid hz
                clear HZ3 hle hz
                rcases hgn2 with rfl | ⟨rfl, rfl⟩
                · skip
                  go_quiet (fail)
                  have hbf : Below w.heap.size w (w4.drewN nq) := ⟨hbw2.os, hbw2.tape, hbw2.output, hbw2.size, hbw2.block⟩
                  have hsf := hs2.below (w' := w4.drewN nq) ⟨rfl, rfl, rfl, Nat.le_refl _, fun _ _ => rfl⟩
                  have hcf : (w4.drewN nq).cell? ⟨w.heap.size, 1, none⟩ = some (.slice (some ⟨p, o, none⟩) n c) := hcell2
                  clear hbw2 hs2 hcell2 y0 y1 y2 cy
                  generalize w4.drewN nq = w5 at *
                  go_wp2
                  go_roundw
                  case rel => exact ⟨i + 1 + 1, ky, hlt, by go_num, HZ4, PrevK.succ HX.out HKY.out, hsf, hcf, hbf⟩
                  case measure => simp [intOf]; omega
                · skip
                  go_quiet (fail)
                  have hbf : Below w.heap.size w (w4.drewN nq) := ⟨hbw2.os, hbw2.tape, hbw2.output, hbw2.size, hbw2.block⟩
                  have hsf := hs2.below (w' := w4.drewN nq) ⟨rfl, rfl, rfl, Nat.le_refl _, fun _ _ => rfl⟩
                  have hcf : (w4.drewN nq).cell? ⟨w.heap.size, 1, none⟩ = some (.slice (some ⟨p, o, none⟩) n c) := hcell2
                  clear hbw2 hs2 hcell2 y0 y1 y2 cy
                  generalize w4.drewN nq = w5 at *
                  go_wp2
                  go_roundw
                  case rel => exact ⟨i + 1 + 1, ky, hlt, by go_num, HZ4, PrevK.succ HX.out HKY.out, hsf, hcf, hbf⟩
                  case measure => simp [intOf]; omega
          · obtain rfl : n = j := by omega
            have hz := HZ.out
            rw [List.drop_of_length_le (by rw [HL.out]; omega)] at hz
            subst hz
            clear HZ
            go_wp2
            go_ret
            exact ⟨rfl, hbw⟩

end Go.Proofs.YtipfhcljdginoaaDoor
