/-
  The walk of the law ValueCut.
-/
import Derived.Test.YtkihpnfehjmpiaaW9
import Derived.Test.YtkihpnfehjmpiaaOpen
import Derived.Test.YtkihpnfehjmpiaaPure4
namespace Go.Proofs.Ytkihpnfehjmpiaa
open Go.RowKit

/-- A box of a value. -/
def VBox (w : World) (b : Nat) (v : V) : Prop := w.cell? ⟨b, 0, none⟩ = some (.int .u8 v.k) ∧ w.cell? ⟨b, 1, none⟩ = some (.int .i64 v.n) ∧ w.cell? ⟨b, 2, none⟩ = some (.string v.s)
theorem VBox.below {w w' : World} {b : Nat} {v : V} (h : VBox w b v) (hb : Below w.heap.size w w') : VBox w' b v := ⟨cell_below hb h.1, cell_below hb h.2.1, cell_below hb h.2.2⟩
theorem VBox.alloc {w : World} {b : Nat} {v : V} (h : VBox w b v) (o : Obj) : VBox (w.alloc o) b v := ⟨cell_alloc o h.1, cell_alloc o h.2.1, cell_alloc o h.2.2⟩
theorem VBox.lt {w : World} {b : Nat} {v : V} (h : VBox w b v) : b < w.heap.size := World.block_lt_of_cell? w _ h.1

/-- Two values in boxes, behind two slots. -/
def TwoBoxes (w : World) (a b : V) (p q : Value) (wc : World) : Prop :=
  ∃ i j, p = .pointer (some ⟨i, 0, none⟩) ∧ q = .pointer (some ⟨j, 0, none⟩) ∧ VBox wc i a ∧ VBox wc j b ∧ Below w.heap.size w wc

set_option maxHeartbeats 4000000 in
theorem valueCut_walk (x y : V) (k : Int) (w : World) (hx : x.Wide) (hy : y.Wide) (hk : (Lit.int .u8 k).wf = true) :
    Calls Try.prog 7 #[.agg #[.int .u8 x.k, .int .i64 x.n, .string x.s], .agg #[.int .u8 y.k, .int .i64 y.n, .string y.s], .int .u8 k] w fun e w' => e = .returned (.bool true) ∧ Below w.heap.size w w' := by
  have hk0 := (bounds_u8 hk).1
  have hk1 := (bounds_u8 hk).2
  obtain ⟨hx0, hx1, hx2, hx3, hx4⟩ := hx
  obtain ⟨hy0, hy1, hy2, hy3, hy4⟩ := hy
  have hvx := ofW_ok x hx2 hx3
  have hvy := ofW_ok y hy2 hy3
  generalize hX : ofW x = vx at hvx
  generalize hY : ofW y = vy at hvy
  have HX := Lib.hid hX
  have HY := Lib.hid hY
  clear hX hY
  go_enter Try.func7, Try.ntmps7
  go_wp2
  have hz0 : VBox ((w.alloc (.cells #[.int .u8 x.k, .int .i64 x.n, .string x.s] 23)).alloc (.cells #[.int .u8 y.k, .int .i64 y.n, .string y.s] 23)) w.heap.size x := VBox.alloc (w := w.alloc _) ⟨by simp, by simp, by simp⟩ _
  have hz1 : VBox ((w.alloc (.cells #[.int .u8 x.k, .int .i64 x.n, .string x.s] 23)).alloc (.cells #[.int .u8 y.k, .int .i64 y.n, .string y.s] 23)) (w.heap.size + 1) y := ⟨by simp, by simp, by simp⟩
  have hbW : Below w.heap.size w ((w.alloc (.cells #[.int .u8 x.k, .int .i64 x.n, .string x.s] 23)).alloc (.cells #[.int .u8 y.k, .int .i64 y.n, .string y.s] 23)) := ((Below.refl _ _).alloc (Nat.le_refl _) _).alloc (by simp) _
  generalize (w.alloc (.cells #[.int .u8 x.k, .int .i64 x.n, .string x.s] 23)).alloc (.cells #[.int .u8 y.k, .int .i64 y.n, .string y.s] 23) = W at *
  generalize w.heap.size + 1 = b1 at *
  have hlt0 := hz0.lt
  have hlt1 := hz1.lt
  obtain ⟨p0, p1, p2⟩ := hz0
  obtain ⟨q0, q1, q2⟩ := hz1
  go_cut [7, 8] (fun p q wc => TwoBoxes w vx vy p q wc)
  case first =>
    go_region_held3 (fun W' => W'.cell? ⟨w.heap.size, 0, none⟩ = some (.int .u8 x.k) ∧ W'.cell? ⟨w.heap.size, 1, none⟩ = some (.int .i64 x.n) ∧ W'.cell? ⟨w.heap.size, 2, none⟩ = some (.string x.s) ∧
        W'.cell? ⟨b1, 0, none⟩ = some (.int .u8 y.k) ∧ W'.cell? ⟨b1, 1, none⟩ = some (.int .i64 y.n) ∧ W'.cell? ⟨b1, 2, none⟩ = some (.string y.s))
      ((refine ⟨?_, ?_, ?_, ?_, ?_, ?_⟩ <;> (repeat (first | (with_reducible assumption) | (with_reducible apply cell_drew) | (with_reducible apply cell_alloc) | ((with_reducible refine cell_far ?_ ?_); (simp; omega))))))
      (first
        | (go_at_call_of 16 (Value.string x.s); refine (of_exact x _ hx0 hx1 hx4).mono ?_; rintro e w1 ⟨rfl, rfl⟩; rw [HX.out])
        | (go_at_call_of 16 (Value.string y.s); refine (of_exact y _ hy0 hy1 hy4).mono ?_; rintro e w1 ⟨rfl, rfl⟩; rw [HY.out]))
    all_goals go_wp2_with fail
    all_goals go_meet
    all_goals
      refine ⟨_, _, rfl, rfl, ⟨?_, ?_, ?_⟩, ⟨?_, ?_, ?_⟩, ?_⟩
      all_goals (first
        | ((repeat (first | (with_reducible apply cell_drew) | (refine cell_top ?_ rfl; (simp; done)) | (with_reducible apply cell_alloc))); done)
        | go_grown)
  case rest =>
    obtain ⟨i, j, rfl, rfl, hbi, hbj, hbc⟩ := hcut
    have hli := hbi.lt
    have hlj := hbj.lt
    clear p0 p1 p2 q0 q1 q2 hlt0 hlt1 hbW
    obtain ⟨p0, p1, p2⟩ := hbi
    obtain ⟨q0, q1, q2⟩ := hbj
    go_wp2
    go_region_held3 (fun W' => W'.cell? ⟨i, 0, none⟩ = some (.int .u8 vx.k) ∧ W'.cell? ⟨i, 1, none⟩ = some (.int .i64 vx.n) ∧ W'.cell? ⟨i, 2, none⟩ = some (.string vx.s) ∧
        W'.cell? ⟨j, 0, none⟩ = some (.int .u8 vy.k) ∧ W'.cell? ⟨j, 1, none⟩ = some (.int .i64 vy.n) ∧ W'.cell? ⟨j, 2, none⟩ = some (.string vy.s) ∧ Below wc.heap.size wc W')
      (first | exact ⟨p0, p1, p2, q0, q1, q2, (Below.refl _ _).drew⟩ | exact ⟨cell_below hB p0, cell_below hB p1, cell_below hB p2, cell_below hB q0, cell_below hB q1, cell_below hB q2, hB⟩)
      (first
        | (go_at_call_of 17 (Value.string vx.s); refine (encode_any vx _ hvx).mono ?_; rintro e w1 ⟨r1, rfl, ho1, hb1⟩; have hB : Below wc.heap.size wc w1 := Below.next (‹_ ∧ _ ∧ _ ∧ _ ∧ _ ∧ _ ∧ Below _ _ _›).2.2.2.2.2.2 hb1)
        | (go_at_call_of 17 (Value.string vy.s); refine (encode_any vy _ hvy).mono ?_; rintro e w2 ⟨r2, rfl, ho2, hb2⟩; have hB : Below wc.heap.size wc w2 := Below.next (‹_ ∧ _ ∧ _ ∧ _ ∧ _ ∧ _ ∧ Below _ _ _›).2.2.2.2.2.2 hb2))
    have hbw2 : Below w.heap.size w w2 := Below.trans hbc (hB.mono hbc.size)
    have hs1' : Below w1.heap.size w1 w2 := hb2
    obtain ⟨A1, c1, rfl, hs1, hlc1, hcm1⟩ := ho1.forms
    obtain ⟨A2, c2, rfl, hs2, hlc2, hcm2⟩ := ho2.forms
    replace hs1 := hs1.below hs1'
    have a0 := cell_below hB p0
    have a1 := cell_below hB p1
    have a2 := cell_below hB p2
    have b0 := cell_below hB q0
    have b1' := cell_below hB q1
    have b2 := cell_below hB q2
    clear hb2 hs1' ho1 ho2 hB p0 p1 p2 q0 q1 q2 hbc hli hlj
    have hle := enc_le vx hvx
    have hly := enc_le vy hvy
    have hpos := enc_pos vx
    have hcut := dec_cut vx hvx
    have hpre := enc_prefix vx vy hvx hvy
    generalize hN : (enc vx).length = N at *
    generalize hM : (enc vy).length = M at *
    have HN := Lib.hid hN
    have HM := Lib.hid hM
    have HPRE := Lib.hid hpre
    have HCUT := Lib.hid hcut
    clear hN hM hpre hcut
    obtain ⟨r, hr⟩ : ∃ r : Nat, k % (N : Int) = (r : Int) := ⟨(k % (N : Int)).toNat, by have := Int.emod_nonneg k (show (N : Int) ≠ 0 by omega); omega⟩
    have hrN : r < N := by have := Int.emod_lt_of_pos k (show (0 : Int) < (N : Int) by omega); omega
    have hne0 : ((N : Int) == 0) = false := by rw [beq_eq_false_iff_ne]; omega
    go_wp2_with fail
    refine (text_any _).mono ?_
    rintro e w3 ⟨rfl, hb3⟩
    have hbw3 : Below w.heap.size w w3 := Below.next' hbw2 hb3 hbw2.size
    replace hs1 := hs1.below hb3
    replace hs2 := hs2.below hb3
    replace a0 := cell_below hb3 a0
    replace a1 := cell_below hb3 a1
    replace a2 := cell_below hb3 a2
    replace b0 := cell_below hb3 b0
    replace b1' := cell_below hb3 b1'
    replace b2 := cell_below hb3 b2
    clear hb3
    go_wp2_with fail
    obtain ⟨v', m', hD⟩ : ∃ v' m', dec ((enc vx).take r) = (v', m', 3) := by
      have := HCUT.out r hrN
      rcases h : dec ((enc vx).take r) with ⟨a, b, c⟩
      rw [h] at this
      simp only at this
      exact ⟨a, b, by rw [this]⟩
    refine (decode_err A1 r c1 ((enc vx).take r) v' m' 3 _ (hs1.upto r (by omega)) (by omega) hcm1 (by omega) hD (by omega)).mono ?_
    rintro e w4 ⟨r4, rfl, ho4, hb4⟩
    have hbw4 : Below w.heap.size w w4 := Below.next' hbw3 hb4 hbw3.size
    replace hs1 := hs1.below hb4
    replace hs2 := hs2.below hb4
    replace a0 := cell_below hb4 a0
    replace a1 := cell_below hb4 a1
    replace a2 := cell_below hb4 a2
    replace b0 := cell_below hb4 b0
    replace b1' := cell_below hb4 b1'
    replace b2 := cell_below hb4 b2
    obtain ⟨A4, c4, rfl, _, _, _⟩ := ho4.forms
    have hli := World.block_lt_of_cell? w4 _ a0
    have hlj := World.block_lt_of_cell? w4 _ b0
    have keq := run_eqV vx vy
    have hmx : M ≤ maxLen := Nat.le_trans hlc2 hcm2
    clear hb4 ho4 hD
    by_cases hNM : N ≤ M
    · have hNM' : (N : Int) ≤ (M : Int) := by omega
      have hNM2 : decide ((N : Int) ≤ (M : Int)) = true := by simpa using hNM
      have heq : ((enc vy).take N == enc vx) = V.eqB vx vy := by
        rw [Bool.eq_iff_iff, beq_iff_eq, V.eqB_iff, ← HPRE.out]
        exact ⟨fun h => ⟨hNM, h⟩, fun h => h.2⟩
      have HEQ := Lib.hid heq
      clear heq
      go_wp2_with fail
      refine (bytes_b A2 A1 N N c2 c1 ((enc vy).take N) (enc vx) _ ((hs2.upto N hNM).alloc _) (hs1.alloc _) (by omega)).mono ?_
      rintro e w5 ⟨rfl, hb5⟩
      rw [HEQ.out]
      have hbw5 : Below w.heap.size w w5 := Below.next' (hbw4.alloc hbw4.size _) hb5 (by have := hbw4.size; simp; omega)
      replace a0 := cell_below hb5 (cell_alloc _ a0)
      replace a1 := cell_below hb5 (cell_alloc _ a1)
      replace a2 := cell_below hb5 (cell_alloc _ a2)
      replace b0 := cell_below hb5 (cell_alloc _ b0)
      replace b1' := cell_below hb5 (cell_alloc _ b1')
      replace b2 := cell_below hb5 (cell_alloc _ b2)
      clear hb5
      go_wp2
      go_ret
      exact ⟨rfl, hbw5⟩
    · have hNM2 : decide ((N : Int) ≤ (M : Int)) = false := by simpa using hNM
      have heq : V.eqB vx vy = false := by
        rw [Bool.eq_false_iff]
        intro h
        exact hNM (HPRE.out.2 ((V.eqB_iff _ _).1 h)).1
      go_wp2
      go_ret
      exact ⟨rfl, hbw4.alloc hbw4.size _⟩

end Go.Proofs.Ytkihpnfehjmpiaa
