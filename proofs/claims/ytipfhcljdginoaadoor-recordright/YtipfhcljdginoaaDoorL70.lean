/-
  The walk of the law RecordRight.
-/
import Derived.Test.YtipfhcljdginoaaDoorRB3
import Derived.Test.YtipfhcljdginoaaDoorOpenSt
import Derived.Test.YtipfhcljdginoaaDoorOA
import Derived.Lib.QuietBelow
namespace Go.Proofs.YtipfhcljdginoaaDoor
open Go.RowKit

/-- Writes in a row of the call's own; their rows lie below it. -/
def OwnI (w : World) (lim base : Nat) (v : Value) (D : List Wr6) : Prop :=
  ∃ S : List WrS, OwnG wrLay w base 45 v S ∧ S.length = D.length ∧ ∀ (i : Nat) (s : WrS) (x : Wr6), S[i]? = some s → D[i]? = some x → WrAt w s x ∧ (0 < s.m → ∀ a, s.A = some a → a.block < lim)
section
variable {w w' : World} {lim base : Nat} {v v' : Value} {D : List Wr6} {K : Nat → Prop}
theorem OwnI.nil (w : World) (lim base : Nat) : OwnI w lim base (.slice none 0 0) [] := ⟨[], OwnG.nil _ _ _, rfl, fun i s l h => by simp at h⟩
theorem OwnI.only (h : OwnI w lim base v D) (ho : Only w w' K) (hv : ∀ k, v.ownBlock = some k → ¬ K k) (hK : ∀ k, k < lim → ¬ K k) : OwnI w' lim base v D := by
  obtain ⟨S, h1, h2, h3⟩ := h
  refine ⟨S, h1.only ho hv, h2, fun i s x hs hx => ?_⟩
  obtain ⟨⟨q1, q2, q3⟩, q4⟩ := h3 i s x hs hx
  exact ⟨⟨q1, q2.only ho (fun hn a ha => hK a.block (q4 hn a ha)), q3⟩, q4⟩
theorem OwnI.below (h : OwnI w lim base v D) (hb : Below w.heap.size w w') : OwnI w' lim base v D := h.only (Only.of_below (S := fun _ => False) hb) (fun _ _ => id) fun _ _ => id
theorem OwnI.seg (h : OwnI w lim base v D) : ∃ A c, v = .slice A D.length c ∧ SegW w A D.length D ∧ D.length ≤ c ∧ c ≤ maxLen := by
  obtain ⟨S, h1, h2, h3⟩ := h
  obtain ⟨A, c, e, hs, hl, hc⟩ := h1.forms
  rw [h2] at e hs hl
  exact ⟨A, c, e, ⟨S, hs, h2, fun i s x q1 q2 => (h3 i s x q1 q2).1⟩, hl, hc⟩
theorem OwnI.append {S : List WrS} {s : WrS} {q : Wr6} {o : Obj} (hSl : S.length = D.length)
    (hSe : ∀ (i : Nat) (s : WrS) (x : Wr6), S[i]? = some s → D[i]? = some x → WrAt w s x ∧ (0 < s.m → ∀ a, s.A = some a → a.block < lim))
    (hq : WrAt w s q ∧ (0 < s.m → ∀ a, s.A = some a → a.block < lim)) (hvl : ∀ k, v.ownBlock = some k → lim ≤ k)
    (ho : OwnG wrLay w' base 45 v' (S ++ [s])) (hg : (w.alloc o).grownBy w' v.ownBlock) : OwnI w' lim base v' (D ++ [q]) := by
  have hon : Only w w' (fun k => v.ownBlock = some k) := ((Only.refl w (fun k => v.ownBlock = some k)).alloc o).trans (Only.of_grown (S := fun k => v.ownBlock = some k) hg fun k hk => hk) fun _ _ h => h
  have step : ∀ (t : WrS) (x : Wr6), (WrAt w t x ∧ (0 < t.m → ∀ a, t.A = some a → a.block < lim)) → (WrAt w' t x ∧ (0 < t.m → ∀ a, t.A = some a → a.block < lim)) := by
    intro t x ⟨⟨h1, h2, h3⟩, h4⟩
    exact ⟨⟨h1, h2.only hon fun hn a ha e => by have := hvl a.block e; have := h4 hn a ha; omega, h3⟩, h4⟩
  refine ⟨S ++ [s], ho, by simp [hSl], fun i t x ht hx => ?_⟩
  by_cases hi : i < S.length
  · rw [List.getElem?_append_left hi] at ht
    rw [List.getElem?_append_left (by omega)] at hx
    exact step t x (hSe i t x ht hx)
  · rw [List.getElem?_append_right (by omega)] at ht
    rw [List.getElem?_append_right (by omega)] at hx
    have hi0 : i - S.length = 0 := by
      have := (List.getElem?_eq_some_iff.1 ht).1
      simp at this
      omega
    rw [hi0] at ht
    rw [← hSl, hi0] at hx
    simp at ht hx
    subst ht hx
    exact step _ _ hq
end

/-- 'make([]byte, r)', the world written out. -/
theorem make_zeros (W : World) (r : Nat) (hr : r ≤ 100000) : (Instr.makeSlice 28 (.int .i64 (r : Int)) (.int .i64 (r : Int))).run Tryd.prog W = .ok (.slice (some ⟨W.heap.size, 0, none⟩) r r) (W.alloc (.cells (cellsB (List.replicate r 0)).toArray 5)) := by
  obtain ⟨i, hi, hz0, hz1, hz2⟩ := info_parts bt.hi
  have h := run_make (P := Tryd.prog) W 28 5 i _ bt.ht hi hz0 .i64 .i64 r r (by omega) (Int.le_refl _) (by rw [hz2]; omega) (by omega)
  simp only [Int.toNat_natCast] at h
  rw [h, hz1, Nat.mul_one]
  have e : madeCells (Value.int IntKind.u8 0).cells r = (cellsB (List.replicate r 0)).toArray := by
    apply Array.toList_inj.1
    exact (toList_madeCells_one _ r).trans (by simp [cellsB])
  rw [e]

theorem one_box (W : World) (key : ByteArray) (B : Option Addr) (m c : Nat) (row : List UInt8) (hs : Seg W B m row) (hm : m ≤ c) (hc : c ≤ maxLen) (g : Nat) (hg : W.heap.size = g) (W' : World)
    (hW : W' = (W.alloc (.cells #[.string key, .slice B m c, .bool false] 45)).alloc (.cells #[.int .i64 1, .slice (some ⟨g, 0, none⟩) 1 1] 26)) :
    Below W.heap.size W W' ∧ SegW W' (some ⟨g, 0, none⟩) 1 [⟨key, row, false⟩] ∧ W'.cell? ⟨g + 1, 0, none⟩ = some (.int .i64 1) ∧ W'.cell? ⟨g + 1, 1, none⟩ = some (.slice (some ⟨g, 0, none⟩) 1 1) ∧ W'.heap.size = g + 2 := by
  have h1 := SegW.one W key B m c row false 45 _ rfl hs hm hc
  have hb1 : Below W.heap.size W (W.alloc (.cells #[.string key, .slice B m c, .bool false] 45)) := (Below.refl _ _).alloc (Nat.le_refl _) _
  have hb2 : Below (W.alloc (.cells #[.string key, .slice B m c, .bool false] 45)).heap.size (W.alloc (.cells #[.string key, .slice B m c, .bool false] 45)) W' := by rw [hW]; exact (Below.refl _ _).alloc (Nat.le_refl _) _
  have h2 := h1.below hb2
  have hb3 := Below.next' hb1 hb2 hb1.size
  have e1 : (W.alloc (.cells #[.string key, .slice B m c, .bool false] 45)).heap.size = g + 1 := by simp [hg]
  rw [hg] at h2
  refine ⟨hb3, h2, ?_, ?_, ?_⟩
  · rw [hW, ← e1]; simp
  · rw [hW, ← e1]; simp
  · rw [hW]; simp [hg]

set_option maxRecDepth 8000 in
set_option maxHeartbeats 80000000 in
theorem recordRight_core (N : Int) (A1 : Option Addr) (n1 c1 : Nat) (L1 : List ByteArray) (A2 : Option Addr) (n2 c2 : Nat) (L2 : List (List UInt8)) (A3 : Option Addr) (n3 c3 : Nat) (L3 : List Bool) (X : Nat) (w : World)
    (ha1 : SegG strLay w A1 n1 L1) (ha2 : SegL w A2 n2 L2) (ha3 : SegG boolLay w A3 n3 L3) (h1 : n1 ≤ 70) (h2 : n2 ≤ 70) (hX : X < 65536) (hE : Ety w) :
    Calls Tryd.prog 6 #[.int .i64 N, .slice A1 n1 c1, .slice A2 n2 c2, .slice A3 n3 c3, .int .u16 (X : Int)] w fun e w' => e = .returned (.bool true) ∧ Below w.heap.size w w' := by
  have d0 : decide ((70 : Int) < (n1 : Int)) = false := decide_eq_false (by omega)
  have d1 : decide ((70 : Int) < (n2 : Int)) = false := decide_eq_false (by omega)
  obtain ⟨q, hq⟩ : ∃ q, X % 4200 = q := ⟨_, rfl⟩
  have hq1 : q < 4200 := by omega
  have eq1 : (X : Int) % 4200 = (q : Int) := by omega
  have eq2 : (X : Int).tmod 4200 = (q : Int) := by rw [Int.tmod_eq_emod_of_nonneg (by omega)]; omega
  have EQ1 := Lib.hid eq1
  have EQ2 := Lib.hid eq2
  clear hq eq1 eq2
  go_enter Tryd.func6, Tryd.ntmps6
  go_wp2_with fail
  refine (short_any w hE).mono ?_
  rintro e w1 ⟨rfl, hb1⟩
  obtain ⟨gb, hgb⟩ : ∃ gb, w1.heap.size = gb := ⟨_, rfl⟩
  obtain ⟨w2, hw2⟩ : ∃ w2, w2 = w1.alloc (.cells #[.int .i64 N, .slice none 0 0] 26) := ⟨_, rfl⟩
  have z0 : w2.cell? ⟨gb, 0, none⟩ = some (.int .i64 N) := by rw [hw2, ← hgb]; simp
  have z1 : w2.cell? ⟨gb, 1, none⟩ = some (.slice none 0 0) := by rw [hw2, ← hgb]; simp
  have zf : ∀ j, w2.frozen? ⟨gb, j, none⟩ = false := fun j => by rw [hw2, ← hgb]; simp
  have hbw2 : Below w.heap.size w w2 := by rw [hw2]; exact hb1.alloc hb1.size _
  have hgl : w.heap.size ≤ gb := by rw [← hgb]; exact hb1.size
  have hz2 : gb < w2.heap.size := by rw [hw2, ← hgb]; simp
  have HW2 := Lib.hid hw2
  have HGB := Lib.hid hgb
  have hE2 := hE.below hbw2
  have HE0 := Lib.hid hE
  clear hw2 hgb hb1 hE
  go_upto_region 4 with fail
  rw [← HW2.out, HGB.out]
  clear HW2 HGB
  go_wp2_with fail
  go_loopw [12, 13] (fun i _ w' => ∃ (j : Nat) (v : Value) (D : List Wr6), j ≤ n1 ∧ i = .int .i64 j ∧ w'.cell? ⟨gb, 0, none⟩ = some (.int .i64 N) ∧ w'.cell? ⟨gb, 1, none⟩ = some v ∧ (∀ k, w'.frozen? ⟨gb, k, none⟩ = false) ∧ OwnI w' w.heap.size (gb + 1) v D ∧ D.length ≤ j ∧ Below w.heap.size w w') (fun i _ _ => n1 - (intOf i).toNat)
  case atStart => exact ⟨0, _, [], by omega, rfl, z0, z1, zf, OwnI.nil _ _ _, by simp, hbw2⟩
  case round =>
    clear z0 z1 zf hbw2 hE2
    obtain ⟨j, v, D, hj, rfl, z0, z1, zf, ⟨S, hS1, hS2, hS3⟩, hD, hbw⟩ := hrel
    by_cases hlt : j < n1
    · obtain ⟨kA, kO, rfl, k0⟩ := ha1.strAt hlt
      obtain ⟨key, hkey⟩ : ∃ key, L1[j]'(by rw [ha1.1]; exact hlt) = key := ⟨_, rfl⟩
      rw [hkey] at k0
      have k0 := cell_below hbw k0
      have dj : decide ((j : Int) < (n1 : Int)) = true := decide_eq_true (by omega)
      -- is it gone?
      have hgone : ∃ (b : Bool), (j < n3 ∧ ∃ gA gO, A3 = some ⟨gA, gO, none⟩ ∧ wr.cell? ⟨gA, gO + j, none⟩ = some (.bool b)) ∨ (¬ j < n3 ∧ b = false) := by
        by_cases hg : j < n3
        · obtain ⟨gA, gO, e, g0⟩ := ha3.boolAt hg
          exact ⟨_, .inl ⟨hg, gA, gO, e, cell_below hbw g0⟩⟩
        · exact ⟨false, .inr ⟨hg, rfl⟩⟩
      have hrow : ∃ (B : Option Addr) (m c : Nat) (row : List UInt8), Seg w B m row ∧ m ≤ c ∧ c ≤ maxLen ∧ ((j < n2 ∧ ∃ rA rO, A2 = some ⟨rA, rO, none⟩ ∧ wr.cell? ⟨rA, rO + j, none⟩ = some (.slice B m c)) ∨ (¬ j < n2 ∧ B = none ∧ m = 0 ∧ c = 0)) := by
        by_cases hg : j < n2
        · obtain ⟨rA, rO, e, hr⟩ := ha2.2 (by omega)
          obtain ⟨B, m, c, q0, q1, q2, q3⟩ := hr j (L2[j]'(by rw [ha2.1]; exact hg)) (List.getElem?_eq_getElem (by rw [ha2.1]; exact hg))
          exact ⟨B, m, c, _, q1, q2, q3, .inl ⟨hg, rA, rO, e, cell_below hbw q0⟩⟩
        · exact ⟨none, 0, 0, [], Seg.nil _ _, Nat.le_refl _, Nat.zero_le _, .inr ⟨hg, rfl, rfl, rfl⟩⟩
      obtain ⟨B, m, cB, row, hsB, hmc, hcm, hrow⟩ := hrow
      obtain ⟨b, hgone⟩ := hgone
      have hvl := hS1.lt
      have hzw := hbw.size
      have hgbl : gb < wr.heap.size := World.block_lt_of_cell? wr _ z0
      have hbase : gb + 1 ≤ wr.heap.size := hgbl
      obtain ⟨A0, c0, rfl, _, hlc, hcm0⟩ := hS1.forms
      obtain ⟨M, hM⟩ : ∃ M, S.length = M := ⟨_, rfl⟩
      have HM := Lib.hid hM
      have HS2 := Lib.hid hS2
      have hM70 : M ≤ 70 := by omega
      rw [hM] at hS1 hvl hlc z1
      have hall : ∀ (wb w4 : World) (v4 : Value) (o : Obj), Below wr.heap.size wr wb → OwnG wrLay w4 (gb + 1) 45 v4 (S ++ [⟨key, B, m, cB, b⟩]) → (wb.alloc o).grownBy w4 (Value.slice A0 M c0).ownBlock →
          w4.cell? ⟨gb, 0, none⟩ = some (.int .i64 N) ∧ w4.cell? ⟨gb, 1, none⟩ = some (.slice A0 M c0) ∧ (∀ k, w4.frozen? ⟨gb, k, none⟩ = false) ∧ OwnI w4 w.heap.size (gb + 1) v4 (D ++ [⟨key, row, b⟩]) ∧ Below w.heap.size w w4 := by
        intro wb w4 v4 o hbb hown4 hg4
        have hon : Only wb w4 (fun k => (Value.slice A0 M c0).ownBlock = some k) := ((Only.refl wb (fun k => (Value.slice A0 M c0).ownBlock = some k)).alloc o).trans (Only.of_grown (S := fun k => (Value.slice A0 M c0).ownBlock = some k) hg4 fun k hk => hk) fun _ _ h => h
        have hng : ¬ (Value.slice A0 M c0).ownBlock = some gb := fun e => by have := (hvl gb e).1; omega
        have y0 := cell_below hbb z0
        refine ⟨hon.cell y0 hng, hon.cell (cell_below hbb z1) hng, fun k => (hon.froz y0 hng ⟨gb, k, none⟩ rfl).trans (((bcell hbb).2 gb k hgbl).trans (zf k)), ?_, ?_⟩
        · refine OwnI.append (w := wb) (o := o) HS2.out (fun i s x h1 h2 => ?_) ⟨⟨rfl, (hsB.below hbw).below hbb, hmc, hcm, rfl⟩, fun hn a ha => by have := hsB.lt hn a ha; omega⟩ (fun k hk => by have := (hvl k hk).1; omega) hown4 hg4
          obtain ⟨⟨t1, t2, t3⟩, t4⟩ := hS3 i s x h1 h2
          exact ⟨⟨t1, t2.below hbb, t3⟩, t4⟩
        · exact hon.below (Below.next' hbw hbb hbw.size) (fun k hk => by have := (hvl k hk).1; omega) (Below.next' hbw hbb hbw.size).size
      have HALL := Lib.hid hall
      have HS1 := Lib.hid hS1
      clear hM hS2 hS3 hall hsB hkey hS1
      rcases hgone with ⟨hg, gA, gO, rfl, g0⟩ | ⟨hg, rfl⟩
      · have dg : decide ((j : Int) < (n3 : Int)) = true := decide_eq_true (by omega)
        rcases hrow with ⟨hr, rA, rO, rfl, r0⟩ | ⟨hr, rfl, rfl, rfl⟩
        · have dr : decide ((j : Int) < (n2 : Int)) = true := decide_eq_true (by omega)
          go_wp2
          refine wp_region_noPanic (wp_region_till (fun W' => W'.cell? ⟨kA, kO + j, none⟩ = some (.string key) ∧ W'.cell? ⟨gA, gO + j, none⟩ = some (.bool b)) 16 (by kernel_rfl) ?_)
          have hbd : Below wr.heap.size wr (wr.drewN 1) := ⟨rfl, rfl, rfl, Nat.le_refl _, fun _ _ => rfl⟩
          change wpAnyT _ _ _ _ _ _ 17 _ _ (wr.drewN 1)
          have hgbl2 : gb < (wr.drewN 1).heap.size := hgbl
          have k01 := cell_below hbd k0
          have g01 := cell_below hbd g0
          have r01 := cell_below hbd r0
          have z01 := cell_below hbd z0
          have z11 := cell_below hbd z1
          have zf1 : ∀ k, (wr.drewN 1).frozen? ⟨gb, k, none⟩ = false := zf
          have hC : (wr.drewN 1).cell? ⟨kA, kO + j, none⟩ = some (.string key) ∧ (wr.drewN 1).cell? ⟨gA, gO + j, none⟩ = some (.bool b) := ⟨k01, g01⟩
          clear k0 z0 z1 zf g0 r0
          generalize wr.drewN 1 = wd at *
          refine wpAnyT_take (i := 0) (v := .slice (some ⟨kA, kO, none⟩) n1 c1) rfl (by kernel_rfl) (fun _ _ _ h => h) hC (Or.inl ⟨by kernel_rfl, fun W' hW => by obtain ⟨q0, q1⟩ := hW; go_simp⟩) ?_
          refine wpAnyT_take (i := 1) (v := .int .i64 (j : Int)) rfl (by kernel_rfl) (fun _ _ _ h => h) hC (Or.inl ⟨by kernel_rfl, fun W' hW => by obtain ⟨q0, q1⟩ := hW; go_simp⟩) ?_
          refine wpAnyT_take (i := 2) (v := .pointer (some ⟨kA, kO + j, none⟩)) rfl (by kernel_rfl) (fun _ _ _ h => h) hC (Or.inl ⟨by kernel_rfl, fun W' hW => by obtain ⟨q0, q1⟩ := hW; go_simp⟩) ?_
          refine wpAnyT_take (i := 3) (v := .string key) rfl (by kernel_rfl) (fun _ _ _ h => h) hC (Or.inl ⟨by kernel_rfl, fun W' hW => by obtain ⟨q0, q1⟩ := hW; go_simp⟩) ?_
          refine wpAnyT_take (i := 4) (v := .int .i64 (j : Int)) rfl (by kernel_rfl) (fun _ _ _ h => h) hC (Or.inl ⟨by kernel_rfl, fun W' hW => by obtain ⟨q0, q1⟩ := hW; go_simp⟩) ?_
          refine wpAnyT_take (i := 5) (v := .slice (some ⟨gA, gO, none⟩) n3 c3) rfl (by kernel_rfl) (fun _ _ _ h => h) hC (Or.inl ⟨by kernel_rfl, fun W' hW => by obtain ⟨q0, q1⟩ := hW; go_simp⟩) ?_
          refine wpAnyT_take (i := 6) (v := .int .i64 (n3 : Int)) rfl (by kernel_rfl) (fun _ _ _ h => h) hC (Or.inl ⟨by kernel_rfl, fun W' hW => by obtain ⟨q0, q1⟩ := hW; go_simp⟩) ?_
          refine wpAnyT_take (i := 7) (v := .bool true) rfl (by kernel_rfl) (fun _ _ _ h => h) hC (Or.inl ⟨by kernel_rfl, fun W' hW => by obtain ⟨q0, q1⟩ := hW; go_simp⟩) ?_
          refine wpAnyT_take (i := 8) (v := .bool true) rfl (by kernel_rfl) (fun _ _ _ h => h) hC (Or.inl ⟨by kernel_rfl, fun W' hW => by obtain ⟨q0, q1⟩ := hW; go_simp⟩) ?_
          refine wpAnyT_take (i := 9) (v := .slice (some ⟨gA, gO, none⟩) n3 c3) rfl (by kernel_rfl) (fun _ _ _ h => h) hC (Or.inl ⟨by kernel_rfl, fun W' hW => by obtain ⟨q0, q1⟩ := hW; go_simp⟩) ?_
          refine wpAnyT_take (i := 10) (v := .int .i64 (j : Int)) rfl (by kernel_rfl) (fun _ _ _ h => h) hC (Or.inl ⟨by kernel_rfl, fun W' hW => by obtain ⟨q0, q1⟩ := hW; go_simp⟩) ?_
          refine wpAnyT_take (i := 11) (v := .pointer (some ⟨gA, gO + j, none⟩)) rfl (by kernel_rfl) (fun _ _ _ h => h) hC (Or.inl ⟨by kernel_rfl, fun W' hW => by obtain ⟨q0, q1⟩ := hW; go_simp⟩) ?_
          refine wpAnyT_take (i := 12) (v := .bool b) rfl (by kernel_rfl) (fun _ _ _ h => h) hC (Or.inl ⟨by kernel_rfl, fun W' hW => by obtain ⟨q0, q1⟩ := hW; go_simp⟩) ?_
          refine wpAnyT_take (i := 13) (v := .bool b) rfl (by kernel_rfl) (fun _ _ _ h => h) hC (Or.inl ⟨by kernel_rfl, fun W' hW => by obtain ⟨q0, q1⟩ := hW; go_simp⟩) ?_
          refine wpAnyT_take (i := 14) (v := .agg #[.string key, .slice none 0 0, .bool b]) rfl (by kernel_rfl) (fun _ _ _ h => h) hC (Or.inl ⟨by kernel_rfl, fun W' hW => by obtain ⟨q0, q1⟩ := hW; go_simp⟩) ?_
          refine wpAnyT_step 15 rfl (by kernel_rfl) ?_
          go_wp2_with fail
          refine ⟨.inr ⟨cell_alloc (.cells #[.string ⟨#[]⟩, .slice none 0 0, .bool false] 45) hC.1, cell_alloc (.cells #[.string ⟨#[]⟩, .slice none 0 0, .bool false] 45) hC.2⟩, ?_⟩
          refine wpAnyT_step 16 rfl (by kernel_rfl) ?_
          go_wp2_with fail
          refine ⟨.inl trivial, ?_⟩
          refine wpAnyT_done (by kernel_rfl) (NoPanic.normal ?_)
          have hb4 : Below wr.heap.size wr (wd.alloc (.cells #[.string key, .slice B m cB, .bool b] 45)) := hbd.alloc hbd.size _
          have hnegb : gb ≠ wd.heap.size := by omega
          have hner : rA ≠ wd.heap.size := fun e => by have := World.block_lt_of_cell? wd _ r01; simp only at this; omega
          have r02 := cell_alloc (.cells #[.string key, .slice none 0 0, .bool b] 45) r01
          clear hbd hC k01 g01
          go_wp2_with (at_builtin
                       refine wpList_append_G _ rfl (.tmp 63) (.tmp 65) _ _ _ _ wrT rfl (gb + 1) (.slice A0 M c0) S rfl ((HS1.out.below hb4).alloc _) (some ⟨wd.heap.size + 1, 0, none⟩) 1 1 ([⟨key, B, m, cB, b⟩] : List WrS) rfl (SegG.newAt _ ([⟨key, B, m, cB, b⟩] : List WrS) _ _ _ 1 (by simp) rfl rfl) (by rw [HM.out]; omega) (by simp; omega) ?_
                       intro v4 w4 hown4 hg4 _
                       obtain ⟨y0, y1, yf, hO4, hB4⟩ := HALL.out _ w4 v4 _ hb4 hown4 hg4
                       have yf1 := yf 1
                       obtain ⟨A5, c5, rfl, _, _, _⟩ := hO4.seg
                       obtain ⟨P5, hP5⟩ : ∃ P5, (D ++ [(⟨key, row, b⟩ : Wr6)]).length = P5 := ⟨_, rfl⟩
                       have HP5 := Lib.hid hP5
                       rw [hP5] at hO4 ⊢
                       clear hown4 hg4 hP5)
          have n10 : (⟨gb, 1, none⟩ : Addr) ≠ ⟨gb, 0, none⟩ := by simp
          have hset : Only w4 (w4.setCell ⟨gb, 1, none⟩ (.slice A5 P5 c5)) (fun k => k = gb) := (Only.refl w4 (fun k => k = gb)).setCell ⟨gb, 1, none⟩ (.slice A5 P5 c5) fun _ => rfl
          have hO5 := hO4.only hset (fun k hk e => by obtain ⟨S5, t1, _⟩ := hO4; have := (t1.lt k hk).1; have e : k = gb := e; omega) (fun k hk e => by have e : k = gb := e; omega)
          go_roundw
          case rel =>
            refine ⟨j + 1, _, _, hlt, by go_num, (World.cell?_setCell_other (h := n10) ..).trans y0, World.cell?_setCell_same _ _ _ y1, fun k => by rw [World.frozen?_setCell]; exact yf k, hO5, by simp; omega, hset.below hB4 (fun k e => by have e : k = gb := e; omega) hB4.size⟩
          case measure => simp [intOf]; omega
        · have dr : decide ((j : Int) < (n2 : Int)) = false := decide_eq_false (by omega)
          go_wp2
          refine wp_region_noPanic (wp_region_till (fun W' => W'.cell? ⟨kA, kO + j, none⟩ = some (.string key) ∧ W'.cell? ⟨gA, gO + j, none⟩ = some (.bool b)) 16 (by kernel_rfl) ?_)
          have hbd : Below wr.heap.size wr (wr.drewN 1) := ⟨rfl, rfl, rfl, Nat.le_refl _, fun _ _ => rfl⟩
          change wpAnyT _ _ _ _ _ _ 17 _ _ (wr.drewN 1)
          have hgbl2 : gb < (wr.drewN 1).heap.size := hgbl
          have k01 := cell_below hbd k0
          have g01 := cell_below hbd g0
          have z01 := cell_below hbd z0
          have z11 := cell_below hbd z1
          have zf1 : ∀ k, (wr.drewN 1).frozen? ⟨gb, k, none⟩ = false := zf
          have hC : (wr.drewN 1).cell? ⟨kA, kO + j, none⟩ = some (.string key) ∧ (wr.drewN 1).cell? ⟨gA, gO + j, none⟩ = some (.bool b) := ⟨k01, g01⟩
          clear k0 z0 z1 zf g0
          generalize wr.drewN 1 = wd at *
          refine wpAnyT_take (i := 0) (v := .slice (some ⟨kA, kO, none⟩) n1 c1) rfl (by kernel_rfl) (fun _ _ _ h => h) hC (Or.inl ⟨by kernel_rfl, fun W' hW => by obtain ⟨q0, q1⟩ := hW; go_simp⟩) ?_
          refine wpAnyT_take (i := 1) (v := .int .i64 (j : Int)) rfl (by kernel_rfl) (fun _ _ _ h => h) hC (Or.inl ⟨by kernel_rfl, fun W' hW => by obtain ⟨q0, q1⟩ := hW; go_simp⟩) ?_
          refine wpAnyT_take (i := 2) (v := .pointer (some ⟨kA, kO + j, none⟩)) rfl (by kernel_rfl) (fun _ _ _ h => h) hC (Or.inl ⟨by kernel_rfl, fun W' hW => by obtain ⟨q0, q1⟩ := hW; go_simp⟩) ?_
          refine wpAnyT_take (i := 3) (v := .string key) rfl (by kernel_rfl) (fun _ _ _ h => h) hC (Or.inl ⟨by kernel_rfl, fun W' hW => by obtain ⟨q0, q1⟩ := hW; go_simp⟩) ?_
          refine wpAnyT_take (i := 4) (v := .int .i64 (j : Int)) rfl (by kernel_rfl) (fun _ _ _ h => h) hC (Or.inl ⟨by kernel_rfl, fun W' hW => by obtain ⟨q0, q1⟩ := hW; go_simp⟩) ?_
          refine wpAnyT_take (i := 5) (v := .slice (some ⟨gA, gO, none⟩) n3 c3) rfl (by kernel_rfl) (fun _ _ _ h => h) hC (Or.inl ⟨by kernel_rfl, fun W' hW => by obtain ⟨q0, q1⟩ := hW; go_simp⟩) ?_
          refine wpAnyT_take (i := 6) (v := .int .i64 (n3 : Int)) rfl (by kernel_rfl) (fun _ _ _ h => h) hC (Or.inl ⟨by kernel_rfl, fun W' hW => by obtain ⟨q0, q1⟩ := hW; go_simp⟩) ?_
          refine wpAnyT_take (i := 7) (v := .bool true) rfl (by kernel_rfl) (fun _ _ _ h => h) hC (Or.inl ⟨by kernel_rfl, fun W' hW => by obtain ⟨q0, q1⟩ := hW; go_simp⟩) ?_
          refine wpAnyT_take (i := 8) (v := .bool true) rfl (by kernel_rfl) (fun _ _ _ h => h) hC (Or.inl ⟨by kernel_rfl, fun W' hW => by obtain ⟨q0, q1⟩ := hW; go_simp⟩) ?_
          refine wpAnyT_take (i := 9) (v := .slice (some ⟨gA, gO, none⟩) n3 c3) rfl (by kernel_rfl) (fun _ _ _ h => h) hC (Or.inl ⟨by kernel_rfl, fun W' hW => by obtain ⟨q0, q1⟩ := hW; go_simp⟩) ?_
          refine wpAnyT_take (i := 10) (v := .int .i64 (j : Int)) rfl (by kernel_rfl) (fun _ _ _ h => h) hC (Or.inl ⟨by kernel_rfl, fun W' hW => by obtain ⟨q0, q1⟩ := hW; go_simp⟩) ?_
          refine wpAnyT_take (i := 11) (v := .pointer (some ⟨gA, gO + j, none⟩)) rfl (by kernel_rfl) (fun _ _ _ h => h) hC (Or.inl ⟨by kernel_rfl, fun W' hW => by obtain ⟨q0, q1⟩ := hW; go_simp⟩) ?_
          refine wpAnyT_take (i := 12) (v := .bool b) rfl (by kernel_rfl) (fun _ _ _ h => h) hC (Or.inl ⟨by kernel_rfl, fun W' hW => by obtain ⟨q0, q1⟩ := hW; go_simp⟩) ?_
          refine wpAnyT_take (i := 13) (v := .bool b) rfl (by kernel_rfl) (fun _ _ _ h => h) hC (Or.inl ⟨by kernel_rfl, fun W' hW => by obtain ⟨q0, q1⟩ := hW; go_simp⟩) ?_
          refine wpAnyT_take (i := 14) (v := .agg #[.string key, .slice none 0 0, .bool b]) rfl (by kernel_rfl) (fun _ _ _ h => h) hC (Or.inl ⟨by kernel_rfl, fun W' hW => by obtain ⟨q0, q1⟩ := hW; go_simp⟩) ?_
          refine wpAnyT_step 15 rfl (by kernel_rfl) ?_
          go_wp2_with fail
          refine ⟨.inr ⟨cell_alloc (.cells #[.string ⟨#[]⟩, .slice none 0 0, .bool false] 45) hC.1, cell_alloc (.cells #[.string ⟨#[]⟩, .slice none 0 0, .bool false] 45) hC.2⟩, ?_⟩
          refine wpAnyT_step 16 rfl (by kernel_rfl) ?_
          go_wp2_with fail
          refine ⟨.inl trivial, ?_⟩
          refine wpAnyT_done (by kernel_rfl) (NoPanic.normal ?_)
          have hb4 : Below wr.heap.size wr (wd.alloc (.cells #[.string key, .slice none 0 0, .bool b] 45)) := hbd.alloc hbd.size _
          have hnegb : gb ≠ wd.heap.size := by omega
          clear hbd hC k01 g01
          go_wp2_with (at_builtin
                       refine wpList_append_G _ rfl (.tmp 63) (.tmp 65) _ _ _ _ wrT rfl (gb + 1) (.slice A0 M c0) S rfl ((HS1.out.below hb4).alloc _) (some ⟨wd.heap.size + 1, 0, none⟩) 1 1 ([⟨key, none, 0, 0, b⟩] : List WrS) rfl (SegG.newAt _ ([⟨key, none, 0, 0, b⟩] : List WrS) _ _ _ 1 (by simp) rfl rfl) (by rw [HM.out]; omega) (by simp; omega) ?_
                       intro v4 w4 hown4 hg4 _
                       obtain ⟨y0, y1, yf, hO4, hB4⟩ := HALL.out _ w4 v4 _ hb4 hown4 hg4
                       have yf1 := yf 1
                       obtain ⟨A5, c5, rfl, _, _, _⟩ := hO4.seg
                       obtain ⟨P5, hP5⟩ : ∃ P5, (D ++ [(⟨key, row, b⟩ : Wr6)]).length = P5 := ⟨_, rfl⟩
                       have HP5 := Lib.hid hP5
                       rw [hP5] at hO4 ⊢
                       clear hown4 hg4 hP5)
          have n10 : (⟨gb, 1, none⟩ : Addr) ≠ ⟨gb, 0, none⟩ := by simp
          have hset : Only w4 (w4.setCell ⟨gb, 1, none⟩ (.slice A5 P5 c5)) (fun k => k = gb) := (Only.refl w4 (fun k => k = gb)).setCell ⟨gb, 1, none⟩ (.slice A5 P5 c5) fun _ => rfl
          have hO5 := hO4.only hset (fun k hk e => by obtain ⟨S5, t1, _⟩ := hO4; have := (t1.lt k hk).1; have e : k = gb := e; omega) (fun k hk e => by have e : k = gb := e; omega)
          go_roundw
          case rel =>
            refine ⟨j + 1, _, _, hlt, by go_num, (World.cell?_setCell_other (h := n10) ..).trans y0, World.cell?_setCell_same _ _ _ y1, fun k => by rw [World.frozen?_setCell]; exact yf k, hO5, by simp; omega, hset.below hB4 (fun k e => by have e : k = gb := e; omega) hB4.size⟩
          case measure => simp [intOf]; omega
      · have dg : decide ((j : Int) < (n3 : Int)) = false := decide_eq_false (by omega)
        rcases hrow with ⟨hr, rA, rO, rfl, r0⟩ | ⟨hr, rfl, rfl, rfl⟩
        · have dr : decide ((j : Int) < (n2 : Int)) = true := decide_eq_true (by omega)
          go_wp2
          refine wp_region_noPanic (wp_region_till (fun W' => W'.cell? ⟨kA, kO + j, none⟩ = some (.string key) ∧ True) 16 (by kernel_rfl) ?_)
          have hbd : Below wr.heap.size wr (wr.drewN 1) := ⟨rfl, rfl, rfl, Nat.le_refl _, fun _ _ => rfl⟩
          change wpAnyT _ _ _ _ _ _ 17 _ _ (wr.drewN 1)
          have hgbl2 : gb < (wr.drewN 1).heap.size := hgbl
          have k01 := cell_below hbd k0
          have r01 := cell_below hbd r0
          have z01 := cell_below hbd z0
          have z11 := cell_below hbd z1
          have zf1 : ∀ k, (wr.drewN 1).frozen? ⟨gb, k, none⟩ = false := zf
          have hC : (wr.drewN 1).cell? ⟨kA, kO + j, none⟩ = some (.string key) ∧ True := ⟨k01, trivial⟩
          clear k0 z0 z1 zf r0
          generalize wr.drewN 1 = wd at *
          refine wpAnyT_take (i := 0) (v := .slice (some ⟨kA, kO, none⟩) n1 c1) rfl (by kernel_rfl) (fun _ _ _ h => h) hC (Or.inl ⟨by kernel_rfl, fun W' hW => by obtain ⟨q0, q1⟩ := hW; go_simp⟩) ?_
          refine wpAnyT_take (i := 1) (v := .int .i64 (j : Int)) rfl (by kernel_rfl) (fun _ _ _ h => h) hC (Or.inl ⟨by kernel_rfl, fun W' hW => by obtain ⟨q0, q1⟩ := hW; go_simp⟩) ?_
          refine wpAnyT_take (i := 2) (v := .pointer (some ⟨kA, kO + j, none⟩)) rfl (by kernel_rfl) (fun _ _ _ h => h) hC (Or.inl ⟨by kernel_rfl, fun W' hW => by obtain ⟨q0, q1⟩ := hW; go_simp⟩) ?_
          refine wpAnyT_take (i := 3) (v := .string key) rfl (by kernel_rfl) (fun _ _ _ h => h) hC (Or.inl ⟨by kernel_rfl, fun W' hW => by obtain ⟨q0, q1⟩ := hW; go_simp⟩) ?_
          refine wpAnyT_take (i := 4) (v := .int .i64 (j : Int)) rfl (by kernel_rfl) (fun _ _ _ h => h) hC (Or.inl ⟨by kernel_rfl, fun W' hW => by obtain ⟨q0, q1⟩ := hW; go_simp⟩) ?_
          refine wpAnyT_take (i := 5) (v := .slice A3 n3 c3) rfl (by kernel_rfl) (fun _ _ _ h => h) hC (Or.inl ⟨by kernel_rfl, fun W' hW => by obtain ⟨q0, q1⟩ := hW; go_simp⟩) ?_
          refine wpAnyT_take (i := 6) (v := .int .i64 (n3 : Int)) rfl (by kernel_rfl) (fun _ _ _ h => h) hC (Or.inl ⟨by kernel_rfl, fun W' hW => by obtain ⟨q0, q1⟩ := hW; go_simp⟩) ?_
          refine wpAnyT_take (i := 7) (v := .bool false) rfl (by kernel_rfl) (fun _ _ _ h => h) hC (Or.inl ⟨by kernel_rfl, fun W' hW => by obtain ⟨q0, q1⟩ := hW; go_simp⟩) ?_
          refine wpAnyT_take (i := 8) (v := .bool false) rfl (by kernel_rfl) (fun _ _ _ h => h) hC (Or.inl ⟨by kernel_rfl, fun W' hW => by obtain ⟨q0, q1⟩ := hW; go_simp⟩) ?_
          refine wpAnyT_take (i := 9) (v := undef) rfl (by kernel_rfl) (fun _ _ _ h => h) hC (Or.inr ⟨by kernel_rfl, rfl⟩) ?_
          refine wpAnyT_take (i := 10) (v := undef) rfl (by kernel_rfl) (fun _ _ _ h => h) hC (Or.inr ⟨by kernel_rfl, rfl⟩) ?_
          refine wpAnyT_take (i := 11) (v := undef) rfl (by kernel_rfl) (fun _ _ _ h => h) hC (Or.inr ⟨by kernel_rfl, rfl⟩) ?_
          refine wpAnyT_take (i := 12) (v := undef) rfl (by kernel_rfl) (fun _ _ _ h => h) hC (Or.inr ⟨by kernel_rfl, rfl⟩) ?_
          refine wpAnyT_take (i := 13) (v := .bool false) rfl (by kernel_rfl) (fun _ _ _ h => h) hC (Or.inl ⟨by kernel_rfl, fun W' hW => by obtain ⟨q0, q1⟩ := hW; go_simp⟩) ?_
          refine wpAnyT_take (i := 14) (v := .agg #[.string key, .slice none 0 0, .bool false]) rfl (by kernel_rfl) (fun _ _ _ h => h) hC (Or.inl ⟨by kernel_rfl, fun W' hW => by obtain ⟨q0, q1⟩ := hW; go_simp⟩) ?_
          refine wpAnyT_step 15 rfl (by kernel_rfl) ?_
          go_wp2_with fail
          refine ⟨.inr ⟨cell_alloc (.cells #[.string ⟨#[]⟩, .slice none 0 0, .bool false] 45) hC.1, trivial⟩, ?_⟩
          refine wpAnyT_step 16 rfl (by kernel_rfl) ?_
          go_wp2_with fail
          refine ⟨.inl trivial, ?_⟩
          refine wpAnyT_done (by kernel_rfl) (NoPanic.normal ?_)
          have hb4 : Below wr.heap.size wr (wd.alloc (.cells #[.string key, .slice B m cB, .bool false] 45)) := hbd.alloc hbd.size _
          have hnegb : gb ≠ wd.heap.size := by omega
          have hner : rA ≠ wd.heap.size := fun e => by have := World.block_lt_of_cell? wd _ r01; simp only at this; omega
          have r02 := cell_alloc (.cells #[.string key, .slice none 0 0, .bool false] 45) r01
          clear hbd hC k01
          go_wp2_with (at_builtin
                       refine wpList_append_G _ rfl (.tmp 63) (.tmp 65) _ _ _ _ wrT rfl (gb + 1) (.slice A0 M c0) S rfl ((HS1.out.below hb4).alloc _) (some ⟨wd.heap.size + 1, 0, none⟩) 1 1 ([⟨key, B, m, cB, false⟩] : List WrS) rfl (SegG.newAt _ ([⟨key, B, m, cB, false⟩] : List WrS) _ _ _ 1 (by simp) rfl rfl) (by rw [HM.out]; omega) (by simp; omega) ?_
                       intro v4 w4 hown4 hg4 _
                       obtain ⟨y0, y1, yf, hO4, hB4⟩ := HALL.out _ w4 v4 _ hb4 hown4 hg4
                       have yf1 := yf 1
                       obtain ⟨A5, c5, rfl, _, _, _⟩ := hO4.seg
                       obtain ⟨P5, hP5⟩ : ∃ P5, (D ++ [(⟨key, row, false⟩ : Wr6)]).length = P5 := ⟨_, rfl⟩
                       have HP5 := Lib.hid hP5
                       rw [hP5] at hO4 ⊢
                       clear hown4 hg4 hP5)
          have n10 : (⟨gb, 1, none⟩ : Addr) ≠ ⟨gb, 0, none⟩ := by simp
          have hset : Only w4 (w4.setCell ⟨gb, 1, none⟩ (.slice A5 P5 c5)) (fun k => k = gb) := (Only.refl w4 (fun k => k = gb)).setCell ⟨gb, 1, none⟩ (.slice A5 P5 c5) fun _ => rfl
          have hO5 := hO4.only hset (fun k hk e => by obtain ⟨S5, t1, _⟩ := hO4; have := (t1.lt k hk).1; have e : k = gb := e; omega) (fun k hk e => by have e : k = gb := e; omega)
          go_roundw
          case rel =>
            refine ⟨j + 1, _, _, hlt, by go_num, (World.cell?_setCell_other (h := n10) ..).trans y0, World.cell?_setCell_same _ _ _ y1, fun k => by rw [World.frozen?_setCell]; exact yf k, hO5, by simp; omega, hset.below hB4 (fun k e => by have e : k = gb := e; omega) hB4.size⟩
          case measure => simp [intOf]; omega
        · have dr : decide ((j : Int) < (n2 : Int)) = false := decide_eq_false (by omega)
          go_wp2
          refine wp_region_noPanic (wp_region_till (fun W' => W'.cell? ⟨kA, kO + j, none⟩ = some (.string key) ∧ True) 16 (by kernel_rfl) ?_)
          have hbd : Below wr.heap.size wr (wr.drewN 1) := ⟨rfl, rfl, rfl, Nat.le_refl _, fun _ _ => rfl⟩
          change wpAnyT _ _ _ _ _ _ 17 _ _ (wr.drewN 1)
          have hgbl2 : gb < (wr.drewN 1).heap.size := hgbl
          have k01 := cell_below hbd k0
          have z01 := cell_below hbd z0
          have z11 := cell_below hbd z1
          have zf1 : ∀ k, (wr.drewN 1).frozen? ⟨gb, k, none⟩ = false := zf
          have hC : (wr.drewN 1).cell? ⟨kA, kO + j, none⟩ = some (.string key) ∧ True := ⟨k01, trivial⟩
          clear k0 z0 z1 zf
          generalize wr.drewN 1 = wd at *
          refine wpAnyT_take (i := 0) (v := .slice (some ⟨kA, kO, none⟩) n1 c1) rfl (by kernel_rfl) (fun _ _ _ h => h) hC (Or.inl ⟨by kernel_rfl, fun W' hW => by obtain ⟨q0, q1⟩ := hW; go_simp⟩) ?_
          refine wpAnyT_take (i := 1) (v := .int .i64 (j : Int)) rfl (by kernel_rfl) (fun _ _ _ h => h) hC (Or.inl ⟨by kernel_rfl, fun W' hW => by obtain ⟨q0, q1⟩ := hW; go_simp⟩) ?_
          refine wpAnyT_take (i := 2) (v := .pointer (some ⟨kA, kO + j, none⟩)) rfl (by kernel_rfl) (fun _ _ _ h => h) hC (Or.inl ⟨by kernel_rfl, fun W' hW => by obtain ⟨q0, q1⟩ := hW; go_simp⟩) ?_
          refine wpAnyT_take (i := 3) (v := .string key) rfl (by kernel_rfl) (fun _ _ _ h => h) hC (Or.inl ⟨by kernel_rfl, fun W' hW => by obtain ⟨q0, q1⟩ := hW; go_simp⟩) ?_
          refine wpAnyT_take (i := 4) (v := .int .i64 (j : Int)) rfl (by kernel_rfl) (fun _ _ _ h => h) hC (Or.inl ⟨by kernel_rfl, fun W' hW => by obtain ⟨q0, q1⟩ := hW; go_simp⟩) ?_
          refine wpAnyT_take (i := 5) (v := .slice A3 n3 c3) rfl (by kernel_rfl) (fun _ _ _ h => h) hC (Or.inl ⟨by kernel_rfl, fun W' hW => by obtain ⟨q0, q1⟩ := hW; go_simp⟩) ?_
          refine wpAnyT_take (i := 6) (v := .int .i64 (n3 : Int)) rfl (by kernel_rfl) (fun _ _ _ h => h) hC (Or.inl ⟨by kernel_rfl, fun W' hW => by obtain ⟨q0, q1⟩ := hW; go_simp⟩) ?_
          refine wpAnyT_take (i := 7) (v := .bool false) rfl (by kernel_rfl) (fun _ _ _ h => h) hC (Or.inl ⟨by kernel_rfl, fun W' hW => by obtain ⟨q0, q1⟩ := hW; go_simp⟩) ?_
          refine wpAnyT_take (i := 8) (v := .bool false) rfl (by kernel_rfl) (fun _ _ _ h => h) hC (Or.inl ⟨by kernel_rfl, fun W' hW => by obtain ⟨q0, q1⟩ := hW; go_simp⟩) ?_
          refine wpAnyT_take (i := 9) (v := undef) rfl (by kernel_rfl) (fun _ _ _ h => h) hC (Or.inr ⟨by kernel_rfl, rfl⟩) ?_
          refine wpAnyT_take (i := 10) (v := undef) rfl (by kernel_rfl) (fun _ _ _ h => h) hC (Or.inr ⟨by kernel_rfl, rfl⟩) ?_
          refine wpAnyT_take (i := 11) (v := undef) rfl (by kernel_rfl) (fun _ _ _ h => h) hC (Or.inr ⟨by kernel_rfl, rfl⟩) ?_
          refine wpAnyT_take (i := 12) (v := undef) rfl (by kernel_rfl) (fun _ _ _ h => h) hC (Or.inr ⟨by kernel_rfl, rfl⟩) ?_
          refine wpAnyT_take (i := 13) (v := .bool false) rfl (by kernel_rfl) (fun _ _ _ h => h) hC (Or.inl ⟨by kernel_rfl, fun W' hW => by obtain ⟨q0, q1⟩ := hW; go_simp⟩) ?_
          refine wpAnyT_take (i := 14) (v := .agg #[.string key, .slice none 0 0, .bool false]) rfl (by kernel_rfl) (fun _ _ _ h => h) hC (Or.inl ⟨by kernel_rfl, fun W' hW => by obtain ⟨q0, q1⟩ := hW; go_simp⟩) ?_
          refine wpAnyT_step 15 rfl (by kernel_rfl) ?_
          go_wp2_with fail
          refine ⟨.inr ⟨cell_alloc (.cells #[.string ⟨#[]⟩, .slice none 0 0, .bool false] 45) hC.1, trivial⟩, ?_⟩
          refine wpAnyT_step 16 rfl (by kernel_rfl) ?_
          go_wp2_with fail
          refine ⟨.inl trivial, ?_⟩
          refine wpAnyT_done (by kernel_rfl) (NoPanic.normal ?_)
          have hb4 : Below wr.heap.size wr (wd.alloc (.cells #[.string key, .slice none 0 0, .bool false] 45)) := hbd.alloc hbd.size _
          have hnegb : gb ≠ wd.heap.size := by omega
          clear hbd hC k01
          go_wp2_with (at_builtin
                       refine wpList_append_G _ rfl (.tmp 63) (.tmp 65) _ _ _ _ wrT rfl (gb + 1) (.slice A0 M c0) S rfl ((HS1.out.below hb4).alloc _) (some ⟨wd.heap.size + 1, 0, none⟩) 1 1 ([⟨key, none, 0, 0, false⟩] : List WrS) rfl (SegG.newAt _ ([⟨key, none, 0, 0, false⟩] : List WrS) _ _ _ 1 (by simp) rfl rfl) (by rw [HM.out]; omega) (by simp; omega) ?_
                       intro v4 w4 hown4 hg4 _
                       obtain ⟨y0, y1, yf, hO4, hB4⟩ := HALL.out _ w4 v4 _ hb4 hown4 hg4
                       have yf1 := yf 1
                       obtain ⟨A5, c5, rfl, _, _, _⟩ := hO4.seg
                       obtain ⟨P5, hP5⟩ : ∃ P5, (D ++ [(⟨key, row, false⟩ : Wr6)]).length = P5 := ⟨_, rfl⟩
                       have HP5 := Lib.hid hP5
                       rw [hP5] at hO4 ⊢
                       clear hown4 hg4 hP5)
          have n10 : (⟨gb, 1, none⟩ : Addr) ≠ ⟨gb, 0, none⟩ := by simp
          have hset : Only w4 (w4.setCell ⟨gb, 1, none⟩ (.slice A5 P5 c5)) (fun k => k = gb) := (Only.refl w4 (fun k => k = gb)).setCell ⟨gb, 1, none⟩ (.slice A5 P5 c5) fun _ => rfl
          have hO5 := hO4.only hset (fun k hk e => by obtain ⟨S5, t1, _⟩ := hO4; have := (t1.lt k hk).1; have e : k = gb := e; omega) (fun k hk e => by have e : k = gb := e; omega)
          go_roundw
          case rel =>
            refine ⟨j + 1, _, _, hlt, by go_num, (World.cell?_setCell_other (h := n10) ..).trans y0, World.cell?_setCell_same _ _ _ y1, fun k => by rw [World.frozen?_setCell]; exact yf k, hO5, by simp; omega, hset.below hB4 (fun k e => by have e : k = gb := e; omega) hB4.size⟩
          case measure => simp [intOf]; omega
    · obtain rfl : n1 = j := by omega
      have dn : decide ((n1 : Int) < (n1 : Int)) = false := by simp
      have hO : OwnI wr w.heap.size (gb + 1) v D := ⟨S, hS1, hS2, hS3⟩
      obtain ⟨A0, c0, rfl, hsg, hlc, hcm0⟩ := hO.seg
      obtain ⟨M, hM⟩ : ∃ M, D.length = M := ⟨_, rfl⟩
      rw [hM] at z1 hsg hlc hD
      have hmk1 := make_zeros wr q (by omega)
      have eq1 := EQ1.out
      have eq2 := EQ2.out
      clear hS1 hS2 hS3 hO hlt zf ha1 ha2 ha3 hM
      go_upto_region 13 with fail
      clear hmk1 eq1 eq2
      obtain ⟨w5, hw5⟩ : ∃ w5, wr.alloc (.cells (cellsB (List.replicate q 0)).toArray 5) = w5 := ⟨_, rfl⟩
      rw [hw5]
      have hz5 : w5.heap.size = wr.heap.size + 1 := by rw [← hw5]; simp
      have hb5 : Below wr.heap.size wr w5 := by rw [← hw5]; exact (Below.refl _ _).alloc (Nat.le_refl _) _
      have hs5 : Seg w5 (some ⟨wr.heap.size, 0, none⟩) q (List.replicate q 0) := by rw [← hw5]; exact Seg.newAt _ _ _ _ _ _ rfl rfl (by simp)
      obtain ⟨w6, hw6⟩ : ∃ w6, w6 = (w5.alloc (.cells #[.string ⟨#[107]⟩, .slice (some ⟨wr.heap.size, 0, none⟩) q q, .bool false] 45)).alloc (.cells #[.int .i64 1, .slice (some ⟨wr.heap.size + 1, 0, none⟩) 1 1] 26) := ⟨_, rfl⟩
      rw [← hw6]
      obtain ⟨hb6, hone, o0, o1, hz6⟩ := one_box w5 _ _ q q _ hs5 (Nat.le_refl _) (by simp only [maxLen]; omega) _ hz5 w6 hw6
      have hbw6 := Below.next' hbw (Below.next' hb5 hb6 hb5.size) hbw.size
      have y0 := cell_below (Below.next' hb5 hb6 hb5.size) z0
      have y1 := cell_below (Below.next' hb5 hb6 hb5.size) z1
      have hsD := hsg.below (Below.next' hb5 hb6 hb5.size)
      clear hw5 hw6 hb5 hb6 hs5 z0 z1 hsg hbw hz5 hz6
      have hm6 := make_zeros w6 q (by omega)
      have hs7 : Seg (w6.alloc (.cells (cellsB (List.replicate q 0)).toArray 5)) (some ⟨w6.heap.size, 0, none⟩) q (List.replicate q 0) := Seg.newAt _ _ _ _ _ _ rfl rfl (by simp)
      have kc := run_string_seg (P := Tryd.prog) _ 28 9 5 bt Tryd.underlying9 _ q q _ hs7
      obtain ⟨key, hkey⟩ : ∃ key : ByteArray, (⟨(List.replicate q (0 : UInt8)).toArray⟩ : ByteArray) = key := ⟨_, rfl⟩
      have hks : key.size = q := by rw [← hkey]; simp [ByteArray.size]
      rw [hkey] at kc
      clear hkey hs7
      go_upto_region 14 with fail
      clear kc hm6
      obtain ⟨w7, hw7⟩ : ∃ w7, w6.alloc (.cells (cellsB (List.replicate q 0)).toArray 5) = w7 := ⟨_, rfl⟩
      rw [hw7]
      have hz7 : w7.heap.size = w6.heap.size + 1 := by rw [← hw7]; simp
      have hb7 : Below w6.heap.size w6 w7 := by rw [← hw7]; exact (Below.refl _ _).alloc (Nat.le_refl _) _
      obtain ⟨w8, hw8⟩ : ∃ w8, w8 = (w7.alloc (.cells #[.string key, .slice none 0 0, .bool false] 45)).alloc (.cells #[.int .i64 1, .slice (some ⟨w6.heap.size + 1, 0, none⟩) 1 1] 26) := ⟨_, rfl⟩
      rw [← hw8]
      obtain ⟨hb8, htwo, t0, t1, hz8⟩ := one_box w7 key none 0 0 [] (Seg.nil _ _) (Nat.le_refl _) (Nat.zero_le _) _ hz7 w8 hw8
      have hb78 := Below.next' hb7 hb8 hb7.size
      have hbw8 := Below.next' hbw6 hb78 hbw6.size
      have y0 := cell_below hb78 y0
      have y1 := cell_below hb78 y1
      have o0 := cell_below hb78 o0
      have o1 := cell_below hb78 o1
      have hsD := hsD.below hb78
      have hone := hone.below hb78
      clear hw7 hw8 hb7 hb8 hb78 hbw6 hz8
      generalize w6.heap.size + 1 = g2 at *
      generalize wr.heap.size + 1 = g1 at *
      have k0 := fun d os => cell_regrown y0 d os
      have k1 := fun d os => cell_regrown y1 d os
      have k2 := fun d os => cell_regrown o0 d os
      have k3 := fun d os => cell_regrown o1 d os
      have k4 := fun d os => cell_regrown t0 d os
      have k5 := fun d os => cell_regrown t1 d os
      obtain ⟨rb, hrb⟩ : ∃ rb, rightB N D = rb := ⟨_, rfl⟩
      obtain ⟨b1, hb1⟩ : ∃ b1, decide ((q : Int) ≤ 4000) = b1 := ⟨_, rfl⟩
      obtain ⟨b2, hb2⟩ : ∃ b2, decide ((1 : Int) ≤ (q : Int)) = b2 := ⟨_, rfl⟩
      have hr1 : rightB 1 [⟨⟨#[107]⟩, List.replicate q 0, false⟩] = b1 := by
        rw [rightB_one, ← hb1, List.length_replicate]
        rw [show decide (1 ≤ (⟨#[107]⟩ : ByteArray).size) = true from rfl, show decide ((⟨#[107]⟩ : ByteArray).size ≤ 4000) = true from rfl]
        simp only [Bool.true_and]
        exact decide_eq_decide.2 (by omega)
      have hr2 : rightB 1 [⟨key, [], false⟩] = (b2 && b1) := by
        rw [rightB_one, hks, ← hb1, ← hb2]
        rw [show decide (([] : List UInt8).length ≤ 4000) = true from rfl, Bool.and_true]
        congr 1 <;> exact decide_eq_decide.2 (by omega)
      have kra := fun d os => right_any N A0 M c0 D _ (hsD.below (below_regrown w8 d os)) (by omega)
      have krb := fun d os => rright_any N A0 M c0 D _ (hsD.below (below_regrown w8 d os)) (by omega)
      have kr1 := fun d os => right_any 1 (some ⟨g1, 0, none⟩) 1 1 _ _ (hone.below (below_regrown w8 d os)) (by omega)
      have kr2 := fun d os => right_any 1 (some ⟨g2, 0, none⟩) 1 1 _ _ (htwo.below (below_regrown w8 d os)) (by omega)
      rw [hrb] at kra krb
      rw [hr1] at kr1
      rw [hr2] at kr2
      have hrr : (rb == rb) = true := by simp
      have KRA := Lib.hid kra
      have KRB := Lib.hid krb
      have KR1 := Lib.hid kr1
      have KR2 := Lib.hid kr2
      clear kra krb kr1 kr2 hr1 hr2 y0 y1 o0 o1 t0 t1 hsD hone htwo hrb hks hD hq1 EQ1 EQ2 hz7 hz2 hgl
      cases b1 <;> cases b2
      · simp only [Bool.and_false] at KR2
        refine wp_region_quiet_below (by kernel_rfl) (by kernel_rfl) ?_
        repeat (go_big_quiet_step ((first | with_reducible exact Calls.regrown_of (KRA.out _ _) | with_reducible exact Calls.regrown_of (KRB.out _ _) | with_reducible exact Calls.regrown_of (KR1.out _ _) | with_reducible exact Calls.regrown_of (KR2.out _ _))))
        refine wpQuiet_nil ?_
        rintro w' ⟨⟨dq, osq⟩, rfl⟩
        have hbq := below_regrown w8 dq osq
        have hbf := Below.next' hbw8 hbq hbw8.size
        clear k0 k1 k2 k3 k4 k5 KRA KRB KR1 KR2 hbq
        simp only
        generalize Go.Sort.grow (redrawn w8 dq) osq = w9 at *
        go_wp2
        go_ret
        exact ⟨rfl, hbf⟩
      · simp only [Bool.and_false] at KR2
        refine wp_region_quiet_below (by kernel_rfl) (by kernel_rfl) ?_
        repeat (go_big_quiet_step ((first | with_reducible exact Calls.regrown_of (KRA.out _ _) | with_reducible exact Calls.regrown_of (KRB.out _ _) | with_reducible exact Calls.regrown_of (KR1.out _ _) | with_reducible exact Calls.regrown_of (KR2.out _ _))))
        refine wpQuiet_nil ?_
        rintro w' ⟨⟨dq, osq⟩, rfl⟩
        have hbq := below_regrown w8 dq osq
        have hbf := Below.next' hbw8 hbq hbw8.size
        clear k0 k1 k2 k3 k4 k5 KRA KRB KR1 KR2 hbq
        simp only
        generalize Go.Sort.grow (redrawn w8 dq) osq = w9 at *
        go_wp2
        go_ret
        exact ⟨rfl, hbf⟩
      · simp only [Bool.and_true] at KR2
        refine wp_region_quiet_below (by kernel_rfl) (by kernel_rfl) ?_
        repeat (go_big_quiet_step ((first | with_reducible exact Calls.regrown_of (KRA.out _ _) | with_reducible exact Calls.regrown_of (KRB.out _ _) | with_reducible exact Calls.regrown_of (KR1.out _ _) | with_reducible exact Calls.regrown_of (KR2.out _ _))))
        refine wpQuiet_nil ?_
        rintro w' ⟨⟨dq, osq⟩, rfl⟩
        have hbq := below_regrown w8 dq osq
        have hbf := Below.next' hbw8 hbq hbw8.size
        clear k0 k1 k2 k3 k4 k5 KRA KRB KR1 KR2 hbq
        simp only
        generalize Go.Sort.grow (redrawn w8 dq) osq = w9 at *
        go_wp2
        go_ret
        exact ⟨rfl, hbf⟩
      · simp only [Bool.and_true] at KR2
        refine wp_region_quiet_below (by kernel_rfl) (by kernel_rfl) ?_
        repeat (go_big_quiet_step ((first | with_reducible exact Calls.regrown_of (KRA.out _ _) | with_reducible exact Calls.regrown_of (KRB.out _ _) | with_reducible exact Calls.regrown_of (KR1.out _ _) | with_reducible exact Calls.regrown_of (KR2.out _ _))))
        refine wpQuiet_nil ?_
        rintro w' ⟨⟨dq, osq⟩, rfl⟩
        have hbq := below_regrown w8 dq osq
        have hbf := Below.next' hbw8 hbq hbw8.size
        clear k0 k1 k2 k3 k4 k5 KRA KRB KR1 KR2 hbq
        simp only
        generalize Go.Sort.grow (redrawn w8 dq) osq = w9 at *
        go_wp2
        go_ret
        exact ⟨rfl, hbf⟩

theorem recordRight_long (N : Int) (A1 : Option Addr) (n1 c1 : Nat) (A2 : Option Addr) (n2 c2 : Nat) (v3 : Value) (X : Int) (w : World)
    (h : 70 < n1 ∨ 70 < n2) (hE : Ety w) :
    Calls Tryd.prog 6 #[.int .i64 N, .slice A1 n1 c1, .slice A2 n2 c2, v3, .int .u16 X] w fun e w' => e = .returned (.bool true) ∧ Below w.heap.size w w' := by
  have hs := short_any w hE
  by_cases h1 : 70 < n1
  · have d0 : decide ((70 : Int) < (n1 : Int)) = true := decide_eq_true (by omega)
    go_enter Tryd.func6, Tryd.ntmps6
    go_wp2_with fail
    refine hs.mono ?_
    rintro e w1 ⟨rfl, hb1⟩
    have hE1 := hE.below hb1
    clear hs
    go_wp2_with fail
    refine (short_any w1 hE1).mono ?_
    rintro e w2 ⟨rfl, hb2⟩
    have hbf := Below.next' hb1 hb2 hb1.size
    clear hb1 hb2 hE hE1
    go_wp2
    go_ret
    exact ⟨rfl, hbf⟩
  · have d0 : decide ((70 : Int) < (n1 : Int)) = false := decide_eq_false (by omega)
    have d1 : decide ((70 : Int) < (n2 : Int)) = true := decide_eq_true (by omega)
    go_enter Tryd.func6, Tryd.ntmps6
    go_wp2_with fail
    refine hs.mono ?_
    rintro e w1 ⟨rfl, hb1⟩
    have hE1 := hE.below hb1
    clear hs
    go_wp2_with fail
    refine (short_any w1 hE1).mono ?_
    rintro e w2 ⟨rfl, hb2⟩
    have hbf := Below.next' hb1 hb2 hb1.size
    clear hb1 hb2 hE hE1
    go_wp2
    go_ret
    exact ⟨rfl, hbf⟩

theorem recordRight_walk (N : Int) (A1 : Option Addr) (n1 c1 : Nat) (L1 : List ByteArray) (A2 : Option Addr) (n2 c2 : Nat) (L2 : List (List UInt8)) (A3 : Option Addr) (n3 c3 : Nat) (L3 : List Bool) (X : Int) (w : World)
    (_ : (Lit.int .i64 N).wf = true) (s1 : SegG strLay w A1 n1 L1) (_ : n1 ≤ c1) (_ : c1 ≤ maxLen) (_ : ∀ y ∈ L1, y.size ≤ maxLen) (s2 : SegL w A2 n2 L2) (_ : n2 ≤ c2) (_ : c2 ≤ maxLen) (s3 : SegG boolLay w A3 n3 L3) (_ : n3 ≤ c3) (_ : c3 ≤ maxLen) (hx : (Lit.int .u16 X).wf = true) (hE : Ety w) :
   
    Calls Tryd.prog 6 #[.int .i64 N, .slice A1 n1 c1, .slice A2 n2 c2, .slice A3 n3 c3, .int .u16 X] w fun e w' => e = .returned (.bool true) ∧ Below w.heap.size w w' := by
  have hx0 := (bounds_u16 hx).1
  have hx1 := (bounds_u16 hx).2
  by_cases h : 70 < n1 ∨ 70 < n2
  · exact recordRight_long N A1 n1 c1 A2 n2 c2 _ X w h hE
  · obtain ⟨x, rfl⟩ : ∃ x : Nat, X = (x : Int) := ⟨X.toNat, by omega⟩

    exact recordRight_core N A1 n1 c1 L1 A2 n2 c2 L2 A3 n3 c3 L3 x w s1 s2 s3 (by omega) (by omega) (by omega) hE

end Go.Proofs.YtipfhcljdginoaaDoor
