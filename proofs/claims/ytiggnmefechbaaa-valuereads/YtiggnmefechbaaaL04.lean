/-
  The walk of the law ValueReads.
-/
import Derived.Test.YtiggnmefechbaaaW7
import Derived.OpenShut
import Derived.Test.YtiggnmefechbaaaQH
import Derived.Lib.QuietBelow
namespace Go.Proofs.Ytiggnmefechbaaa
open Go.RowKit

set_option maxHeartbeats 8000000 in
theorem valueReads_walk (A : Option Addr) (n c : Nat) (l : List UInt8) (w : World) (ha : Seg w A n l) (hnc : n ≤ c) (hcm : c ≤ maxLen) :
    Calls Try.prog 4 #[.slice A n c] w fun e w' => e = .returned (.bool true) ∧ Below w.heap.size w w' := by
  by_cases h300 : 300 < n
  · unfold maxLen at hcm
    go_enter Try.func4, Try.ntmps4
    go_wp2_with (go_at_call 15; refine (text_any _).mono ?_; rintro e w2 ⟨rfl, hb2⟩)
    go_ret
    exact ⟨rfl, hb2⟩
  · have hn : n ≤ 300 := by omega
    clear h300
    rcases hD : dec l with ⟨v, m, x⟩
    have HD := Lib.hid hD
    by_cases hx : x = 0
    · subst hx
      have hok := dec_ok l (by rw [hD])
      rw [hD] at hok
      obtain ⟨hvok, hml, hve⟩ := hok
      simp only at hvok hml hve
      have hmn : m ≤ n := by have := ha.1; omega
      have hmn' : (m : Int) ≤ (n : Int) := by omega
      obtain ⟨A3, hA3, hseg3⟩ : ∃ A3, (if c = m then A else Option.map (fun x => x.add m) A) = A3 ∧ ∀ W, Seg W A n l → Seg W A3 (n - m) (l.drop m) := ⟨_, rfl, fun W h => h.fromA m c hmn hnc⟩
      have HSEG := Lib.hid hseg3
      have HVE := Lib.hid hve
      clear hD hve hml hseg3
      go_enter Try.func4, Try.ntmps4
      go_wp2_with fail
      refine (decode_ok A n c l v m _ ha hnc hcm (by omega) HD.out).mono ?_
      rintro e w1 ⟨v1, rfl, ho1, hb1⟩
      obtain ⟨A1, c1, rfl, hs1, hlc1, hcm1⟩ := ho1.forms
      have hql : (l.drop m).length ≤ maxLen := Nat.le_trans hlc1 hcm1
      generalize hN1 : (l.drop m).length = n1 at *
      have HN1 := Lib.hid hN1
      clear hN1
      go_wp2_with fail
      refine (rdecode_of A n c l v m 0 _ ((ha.below hb1).alloc _) hnc hcm HD.out).mono ?_
      rintro e w2 ⟨rfl, hb2⟩
      go_wp2_with fail
      have hx0 : w2.cell? ⟨w1.heap.size, 0, none⟩ = some (.int .u8 v.k) := cell_below hb2 (by simp)
      have hx1 : w2.cell? ⟨w1.heap.size, 1, none⟩ = some (.int .i64 v.n) := cell_below hb2 (by simp)
      have hx2 : w2.cell? ⟨w1.heap.size, 2, none⟩ = some (.string v.s) := cell_below hb2 (by simp)
      replace hx0 := cell_alloc (.cells #[.int .u8 v.k, .int .i64 v.n, .string v.s] 26) hx0
      replace hx1 := cell_alloc (.cells #[.int .u8 v.k, .int .i64 v.n, .string v.s] 26) hx1
      replace hx2 := cell_alloc (.cells #[.int .u8 v.k, .int .i64 v.n, .string v.s] 26) hx2
      have hy0 : (w2.alloc (.cells #[.int .u8 v.k, .int .i64 v.n, .string v.s] 26)).cell? ⟨w2.heap.size, 0, none⟩ = some (.int .u8 v.k) := by simp
      have hy1 : (w2.alloc (.cells #[.int .u8 v.k, .int .i64 v.n, .string v.s] 26)).cell? ⟨w2.heap.size, 1, none⟩ = some (.int .i64 v.n) := by simp
      have hy2 : (w2.alloc (.cells #[.int .u8 v.k, .int .i64 v.n, .string v.s] 26)).cell? ⟨w2.heap.size, 2, none⟩ = some (.string v.s) := by simp
      have hbW : Below w.heap.size w (w2.alloc (.cells #[.int .u8 v.k, .int .i64 v.n, .string v.s] 26)) :=
        (Below.next' (hb1.alloc hb1.size _) hb2 (by have := hb1.size; simp; omega)).alloc (by have := hb1.size; have := hb2.size; simp at this; omega) _
      have hsW : Seg (w2.alloc (.cells #[.int .u8 v.k, .int .i64 v.n, .string v.s] 26)) A n l := ha.below hbW
      have hqW := ((hs1.alloc (.cells #[.int .u8 v.k, .int .i64 v.n, .string v.s] 26)).below hb2).alloc (.cells #[.int .u8 v.k, .int .i64 v.n, .string v.s] 26)
      clear hs1 ho1
      generalize w2.alloc (.cells #[.int .u8 v.k, .int .i64 v.n, .string v.s] 26) = W at *
      clear hb1 hb2
      generalize w1.heap.size = b3 at *
      generalize w2.heap.size = b6 at *
      have keq := run_eqV v v
      have hvv : V.eqB v v = true := (V.eqB_iff _ _).2 rfl
      unfold maxLen at hcm
      have k0 := fun d os => cell_regrown hx0 d os
      have k1 := fun d os => cell_regrown hx1 d os
      have k2 := fun d os => cell_regrown hx2 d os
      have k3 := fun d os => cell_regrown hy0 d os
      have k4 := fun d os => cell_regrown hy1 d os
      have k5 := fun d os => cell_regrown hy2 d os
      refine wp_region_quiet_head (fun w' => ∃ p : Regrown, w' = Go.Sort.grow (redrawn W p.d) p.os) 34 (marks 34 0 (Array.replicate 44 false)) (by kernel_rfl) (by kernel_rfl) ⟨⟨W.drawn + 1, #[]⟩, by rw [Go.Sort.grow_empty]; rfl⟩ ?_
      simp only [List.take_succ_cons, List.take_zero]
      repeat (quiet_step (first
        | exact Calls.regrown_of (text_any _)
        | exact Calls.regrown_of (right_ok v _ hvok)
        | exact Calls.regrown_of (bytes_yes A1 A3 n1 (n - m) c1 (c - m) (l.drop m) _ (hqW.below (below_regrown W _ _)) (HSEG.out _ (hsW.below (below_regrown W _ _))) hql)))
      refine wpQuiet_nil ?_
      rintro _ ⟨⟨dq, osq⟩, rfl⟩
      have hB : Below W.heap.size W (Go.Sort.grow (redrawn W dq) osq) := below_regrown W dq osq
      have hsN := hsW.below hB
      have j0 := cell_below hB hx0
      have j1 := cell_below hB hx1
      have j2 := cell_below hB hx2
      clear k0 k1 k2 k3 k4 k5 keq hvv
      change wpAny _ _ _ _ 10 _ _ (Go.Sort.grow (redrawn W dq) osq)
      generalize Go.Sort.grow (redrawn W dq) osq = V9 at *
      refine wpAny_take (i := 36) (v := .slice A n c) rfl (by kernel_rfl) (by kernel_rfl) (by kernel_rfl) (fun _ _ _ h => h) (Or.inl ⟨rfl, fun _ => rfl⟩) ?_
      refine wpAny_take (i := 37) (v := .int .i64 m) rfl (by kernel_rfl) (by kernel_rfl) (by kernel_rfl) (fun _ _ _ h => h) (Or.inl ⟨rfl, fun _ => rfl⟩) ?_
      refine wpAny_take (i := 38) (v := .slice A m c) rfl (by kernel_rfl) (by kernel_rfl) (by kernel_rfl) (fun _ _ _ h => h) (Or.inl ⟨rfl, fun _ => by go_simp; intro h; exact absurd h (by omega)⟩) ?_
      refine wpAny_only' [34, 35, 39, 40, 41, 42, 43] _ _ _ (by kernel_rfl) (by kernel_rfl) ?_
      simp only [List.filterMap_cons, List.filterMap_nil, List.getElem?_toArray, List.getElem?_cons_succ, List.getElem?_cons_zero]
      go_wp2_with fail
      refine (encode_any v _ hvok).mono ?_
      rintro e w6 ⟨v4, rfl, ho4, hb6⟩
      rw [HVE.out] at ho4
      have hsN6 := (hsN.below hb6).upto m hmn
      obtain ⟨t4, ht4⟩ : ∃ t4, l.take m = t4 := ⟨_, rfl⟩
      rw [ht4] at ho4 hsN6
      clear ht4
      obtain ⟨A4, c4, rfl, hs4, hlc4, hcm4⟩ := ho4.forms
      have hBw : Below w.heap.size w w6 := (hbW.trans (hB.mono hbW.size)).trans (hb6.mono (Nat.le_trans hbW.size hB.size))
      have hlm : t4.length ≤ maxLen := Nat.le_trans hlc4 hcm4
      clear ho4 hb6 HVE HSEG hqW hsN hsW hx0 hx1 hx2 hy0 hy1 hy2 hB hbW hA3 j0 j1 j2
      go_wp2_with fail
      refine (bytes_yes A4 A _ m c4 c t4 _ hs4 hsN6 hlm).mono ?_
      rintro e w7 ⟨rfl, hb7⟩
      have hBw7 : Below w.heap.size w w7 := Below.next' hBw hb7 hBw.size
      go_wp2
      go_ret
      exact ⟨rfl, hBw7⟩
    · have hx' : (x != 0) = true := by simpa using hx
      have hx'' : (x == 0) = false := by simpa using hx
      go_enter Try.func4, Try.ntmps4
      go_wp2_with fail
      refine (decode_err A n c l v m x _ ha hnc hcm (by omega) HD.out hx).mono ?_
      rintro e w1 ⟨v1, rfl, ho1, hb1⟩
      obtain ⟨A1, c1, rfl, _, _, _⟩ := ho1.forms
      rw [List.length_nil]
      go_wp2_with fail
      refine (rdecode_of A n c l v m x _ ((ha.below hb1).alloc _) hnc hcm HD.out).mono ?_
      rintro e w2 ⟨rfl, hb2⟩
      clear HD
      go_wp2_with fail
      have hx0 : w2.cell? ⟨w1.heap.size, 0, none⟩ = some (.int .u8 v.k) := cell_below hb2 (by simp)
      have hx1 : w2.cell? ⟨w1.heap.size, 1, none⟩ = some (.int .i64 v.n) := cell_below hb2 (by simp)
      have hx2 : w2.cell? ⟨w1.heap.size, 2, none⟩ = some (.string v.s) := cell_below hb2 (by simp)
      replace hx0 := cell_alloc (.cells #[.int .u8 v.k, .int .i64 v.n, .string v.s] 26) hx0
      replace hx1 := cell_alloc (.cells #[.int .u8 v.k, .int .i64 v.n, .string v.s] 26) hx1
      replace hx2 := cell_alloc (.cells #[.int .u8 v.k, .int .i64 v.n, .string v.s] 26) hx2
      have hy0 : (w2.alloc (.cells #[.int .u8 v.k, .int .i64 v.n, .string v.s] 26)).cell? ⟨w2.heap.size, 0, none⟩ = some (.int .u8 v.k) := by simp
      have hy1 : (w2.alloc (.cells #[.int .u8 v.k, .int .i64 v.n, .string v.s] 26)).cell? ⟨w2.heap.size, 1, none⟩ = some (.int .i64 v.n) := by simp
      have hy2 : (w2.alloc (.cells #[.int .u8 v.k, .int .i64 v.n, .string v.s] 26)).cell? ⟨w2.heap.size, 2, none⟩ = some (.string v.s) := by simp
      have hbW : Below w.heap.size w (w2.alloc (.cells #[.int .u8 v.k, .int .i64 v.n, .string v.s] 26)) :=
        (Below.next' (hb1.alloc hb1.size _) hb2 (by have := hb1.size; simp; omega)).alloc (by have := hb1.size; have := hb2.size; simp at this; omega) _
      generalize w2.alloc (.cells #[.int .u8 v.k, .int .i64 v.n, .string v.s] 26) = W at *
      clear hb1 hb2 ho1
      generalize w1.heap.size = b3 at *
      generalize w2.heap.size = b6 at *
      have keq := run_eqV v v
      have hvv : V.eqB v v = true := (V.eqB_iff _ _).2 rfl
      have k0 := fun d os => cell_regrown hx0 d os
      have k1 := fun d os => cell_regrown hx1 d os
      have k2 := fun d os => cell_regrown hx2 d os
      have k3 := fun d os => cell_regrown hy0 d os
      have k4 := fun d os => cell_regrown hy1 d os
      have k5 := fun d os => cell_regrown hy2 d os
      refine wp_region_quiet_below (by kernel_rfl) (by kernel_rfl) ?_
      repeat (go_big_quiet_step ((exact Calls.regrown_of (text_any _))))
      refine wpQuiet_nil ?_
      intro _ hw9
      obtain ⟨⟨dq, osq⟩, hw8⟩ := hw9
      subst hw8
      have hB : Below W.heap.size W (Go.Sort.grow (redrawn W dq) osq) := below_regrown W dq osq
      clear k0 k1 k2 k3 k4 k5 keq hvv
      generalize Go.Sort.grow (redrawn W dq) osq = V9 at *
      go_wp2
      go_ret
      exact ⟨rfl, hbW.trans (hB.mono hbW.size)⟩

end Go.Proofs.Ytiggnmefechbaaa
