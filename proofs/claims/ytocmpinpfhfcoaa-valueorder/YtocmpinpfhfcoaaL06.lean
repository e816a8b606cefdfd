/-
  The walk of the law ValueOrder.
-/
import Derived.Test.YtocmpinpfhfcoaaWO3
import Derived.Lib.QuietBelow
namespace Go.Proofs.Ytocmpinpfhfcoaa
open Go.RowKit
open Go.Op (bytesLess)

set_option maxRecDepth 8000 in
set_option maxHeartbeats 40000000 in
theorem valueOrder_walk (x y z : V) (w : World) (hx : x.Wide) (hy : y.Wide) (hz : z.Wide) :
    Calls Try.prog 3 #[.agg #[.int .u8 x.k, .int .i64 x.n, .string x.s], .agg #[.int .u8 y.k, .int .i64 y.n, .string y.s], .agg #[.int .u8 z.k, .int .i64 z.n, .string z.s]] w fun e w' => e = .returned (.bool true) ∧ Below w.heap.size w w' := by
  obtain ⟨hx0, hx1, hx2, hx3, hx4⟩ := hx
  obtain ⟨hy0, hy1, hy2, hy3, hy4⟩ := hy
  obtain ⟨hz0, hz1, hz2, hz3, hz4⟩ := hz
  have hvx := ofW_ok x hx2 hx3
  have hvy := ofW_ok y hy2 hy3
  have hvz := ofW_ok z hz2 hz3
  generalize hX : ofW x = vx at hvx
  generalize hY : ofW y = vy at hvy
  generalize hZ : ofW z = vz at hvz
  have HX := Lib.hid hX
  have HY := Lib.hid hY
  have HZ := Lib.hid hZ
  clear hX hY hZ
  go_enter Try.func3, Try.ntmps3
  go_wp2_with fail
  have b0 : VBox (((w.alloc (.cells #[.int .u8 x.k, .int .i64 x.n, .string x.s] 23)).alloc (.cells #[.int .u8 y.k, .int .i64 y.n, .string y.s] 23)).alloc (.cells #[.int .u8 z.k, .int .i64 z.n, .string z.s] 23)) w.heap.size x := ((vbox_new w x _ _ rfl).alloc _).alloc _
  have b1 : VBox (((w.alloc (.cells #[.int .u8 x.k, .int .i64 x.n, .string x.s] 23)).alloc (.cells #[.int .u8 y.k, .int .i64 y.n, .string y.s] 23)).alloc (.cells #[.int .u8 z.k, .int .i64 z.n, .string z.s] 23)) (w.heap.size + 1) y := (vbox_new _ y _ _ (World.size_alloc _ _).symm).alloc _
  have b2 : VBox (((w.alloc (.cells #[.int .u8 x.k, .int .i64 x.n, .string x.s] 23)).alloc (.cells #[.int .u8 y.k, .int .i64 y.n, .string y.s] 23)).alloc (.cells #[.int .u8 z.k, .int .i64 z.n, .string z.s] 23)) (w.heap.size + 1 + 1) z := vbox_new _ z _ _ (by simp)
  have hbW : Below w.heap.size w (((w.alloc (.cells #[.int .u8 x.k, .int .i64 x.n, .string x.s] 23)).alloc (.cells #[.int .u8 y.k, .int .i64 y.n, .string y.s] 23)).alloc (.cells #[.int .u8 z.k, .int .i64 z.n, .string z.s] 23)) := (((Below.refl _ _).alloc (Nat.le_refl _) _).alloc (by simp) _).alloc (by simp; omega) _
  generalize ((w.alloc (.cells #[.int .u8 x.k, .int .i64 x.n, .string x.s] 23)).alloc (.cells #[.int .u8 y.k, .int .i64 y.n, .string y.s] 23)).alloc (.cells #[.int .u8 z.k, .int .i64 z.n, .string z.s] 23) = W at *
  generalize w.heap.size + 1 + 1 = c2 at *
  generalize w.heap.size + 1 = c1 at *
  have hlt0 := b0.lt
  have hlt1 := b1.lt
  have hlt2 := b2.lt
  obtain ⟨p0, p1, p2⟩ := b0
  obtain ⟨q0, q1, q2⟩ := b1
  obtain ⟨r0, r1, r2⟩ := b2
  go_cut [7, 8, 9] (fun p q r wc => ThreeBoxes w vx vy vz p q r wc)
  case first =>
    refine wp_region_inv 9 (fun d a w1 => ∃ v7 v8 v9 v10 v11 v12 v13 v14 v15, a = actO x y z w.heap.size c1 c2 v7 v8 v9 v10 v11 v12 v13 v14 v15 ∧ InvO W x y z vx vy vz d v7 v8 v9 v10 v11 v12 v13 v14 v15 w1) (by kernel_rfl) (by kernel_rfl) ?_ ?_ ?_
    · exact ⟨undef, undef, undef, undef, undef, undef, undef, undef, undef, rfl, (Below.refl _ _).drew, by simp, by simp, by simp, by simp, by simp, by simp, by simp, by simp, by simp, by simp, by simp, by simp⟩
    · intro d a w1 hI i o hi ho hdep
      obtain ⟨v7, v8, v9, v10, v11, v12, v13, v14, v15, rfl, h⟩ := hI
      have e0 := cell_below h.bel p0
      have e1 := cell_below h.bel p1
      have e2 := cell_below h.bel p2
      have e3 := cell_below h.bel q0
      have e4 := cell_below h.bel q1
      have e5 := cell_below h.bel q2
      have e6 := cell_below h.bel r0
      have e7 := cell_below h.bel r1
      have e8 := cell_below h.bel r2
      have H := Lib.hid h
      clear h p0 p1 p2 q0 q1 q2 r0 r1 r2
      match i, hi with
      | 0, _ =>
        refine wpOp_one rfl ?_
        unfold actO
        clear hdep ho
        go_wp2_with fail
        exact ⟨v7, v8, v9, _, v11, v12, v13, v14, v15, rfl, H.out.s0⟩
      | 1, _ =>
        have hv := H.out.f0 (by
          obtain rfl := Option.some.inj ho
          exact hdep ⟨0, .data⟩ (by simp) rfl)
        subst hv
        refine wpOp_one rfl ?_
        unfold actO
        clear hdep ho
        go_wp2_with fail
        refine (of_any x _ hx0 hx1 hx4).mono ?_
        rintro e w2 ⟨rfl, hb2⟩
        rw [HX.out]
        go_wp2_with fail
        exact ⟨v7, v8, v9, _, _, v12, v13, v14, v15, rfl, (H.out.below hb2).s1⟩
      | 2, _ =>
        refine wpOp_one rfl ?_
        unfold actO
        clear hdep ho
        go_wp2_with fail
        exact ⟨v7, v8, v9, v10, v11, _, v13, v14, v15, rfl, H.out.s2⟩
      | 3, _ =>
        have hv := H.out.f2 (by
          obtain rfl := Option.some.inj ho
          exact hdep ⟨2, .data⟩ (by simp) rfl)
        subst hv
        refine wpOp_one rfl ?_
        unfold actO
        clear hdep ho
        go_wp2_with fail
        refine (of_any y _ hy0 hy1 hy4).mono ?_
        rintro e w2 ⟨rfl, hb2⟩
        rw [HY.out]
        go_wp2_with fail
        exact ⟨v7, v8, v9, v10, v11, _, _, v14, v15, rfl, (H.out.below hb2).s3⟩
      | 4, _ =>
        refine wpOp_one rfl ?_
        unfold actO
        clear hdep ho
        go_wp2_with fail
        exact ⟨v7, v8, v9, v10, v11, v12, v13, _, v15, rfl, H.out.s4⟩
      | 5, _ =>
        have hv := H.out.f4 (by
          obtain rfl := Option.some.inj ho
          exact hdep ⟨4, .data⟩ (by simp) rfl)
        subst hv
        refine wpOp_one rfl ?_
        unfold actO
        clear hdep ho
        go_wp2_with fail
        refine (of_any z _ hz0 hz1 hz4).mono ?_
        rintro e w2 ⟨rfl, hb2⟩
        rw [HZ.out]
        go_wp2_with fail
        exact ⟨v7, v8, v9, v10, v11, v12, v13, _, _, rfl, (H.out.below hb2).s5⟩
      | 6, _ =>
        refine wpOp_one rfl ?_
        unfold actO
        clear hdep ho
        go_wp2_with fail
        exact ⟨_, v8, v9, v10, v11, v12, v13, v14, v15, rfl, H.out.s6⟩
      | 7, _ =>
        refine wpOp_one rfl ?_
        unfold actO
        clear hdep ho
        go_wp2_with fail
        exact ⟨v7, _, v9, v10, v11, v12, v13, v14, v15, rfl, H.out.s7⟩
      | 8, _ =>
        refine wpOp_one rfl ?_
        unfold actO
        clear hdep ho
        go_wp2_with fail
        exact ⟨v7, v8, _, v10, v11, v12, v13, v14, v15, rfl, H.out.s8⟩
    · intro a w1 hI
      obtain ⟨v7, v8, v9, v10, v11, v12, v13, v14, v15, rfl, h⟩ := hI
      obtain ⟨i, rfl, iB, i0, i1, i2, i3⟩ := h.f6 (by decide)
      obtain ⟨j, rfl, jB, j0, j1, j2, j3⟩ := h.f7 (by decide)
      obtain ⟨k, rfl, kB, k0, k1, k2, k3⟩ := h.f8 (by decide)
      have hij : i ≠ j := fun e => h.n67 (by decide) (by decide) (by rw [e])
      have hik : i ≠ k := fun e => h.n68 (by decide) (by decide) (by rw [e])
      have hjk : j ≠ k := fun e => h.n78 (by decide) (by decide) (by rw [e])
      have hv0 := h.f0 (by decide)
      have hv1 := h.f1 (by decide)
      have hv2 := h.f2 (by decide)
      have hv3 := h.f3 (by decide)
      have hv4 := h.f4 (by decide)
      have hv5 := h.f5 (by decide)
      subst hv0 hv1 hv2 hv3 hv4 hv5
      have hji := Ne.symm hij
      have hki := Ne.symm hik
      have hkj := Ne.symm hjk
      have HB := Lib.hid h.bel
      clear h p0 p1 p2 q0 q1 q2 r0 r1 r2
      refine wpAny_only' [9, 10, 11] _ _ _ (by kernel_rfl) (by kernel_rfl) ?_
      simp only [List.filterMap_cons, List.filterMap_nil, List.getElem?_toArray, List.getElem?_cons_succ, List.getElem?_cons_zero]
      unfold actO
      go_wp2_with fail
      go_meet
      have hw := hbW.size
      exact ⟨i, j, k, rfl, rfl, rfl, VBox.far hki (VBox.far hji (VBox.set vx i0 i1 i2)), VBox.far hkj (VBox.set vy (cell_far3 hij j0) (cell_far3 hij j1) (cell_far3 hij j2)),
        VBox.set vz (cell_far3 hjk (cell_far3 hik k0)) (cell_far3 hjk (cell_far3 hik k1)) (cell_far3 hjk (cell_far3 hik k2)),
        hbW.trans ((((((((((HB.out.setCell iB _).setCell iB _).setCell iB _).setCell jB _).setCell jB _).setCell jB _).setCell kB _).setCell kB _).setCell kB _).mono hw)⟩
  case rest =>
    obtain ⟨i, j, k, rfl, rfl, rfl, hbi, hbj, hbk, hbc⟩ := hcut
    clear p0 p1 p2 q0 q1 q2 r0 r1 r2 hlt0 hlt1 hlt2 hbW HX HY HZ
    obtain ⟨p0, p1, p2⟩ := hbi
    obtain ⟨q0, q1, q2⟩ := hbj
    obtain ⟨r0, r1, r2⟩ := hbk
    have HXY := Lib.hid (fun W => compare_ok vx vy hvx hvy W)
    have HYX := Lib.hid (fun W => compare_ok vy vx hvy hvx W)
    have HYZ := Lib.hid (fun W => compare_ok vy vz hvy hvz W)
    have HXZ := Lib.hid (fun W => compare_ok vx vz hvx hvz W)
    have HXX := Lib.hid (fun W => compare_ok vx vx hvx hvx W)
    rw [cmpV_self vx hvx] at HXX
    have HRR := Lib.hid (fun W => rcompare_any vx vy W)
    have HSM := Lib.hid (fun W => same_any vx vy W)
    rw [eqB_cmp vx vy hvx hvy] at HSM
    have hneg := cmpV_neg vx vy hvx hvy
    have htr := cmpV_trans vx vy vz hvx hvy hvz
    have HWR : Hid (wrap64 (cmpV vx vy) = cmpV vx vy) := Lib.hid (cmpV_wrap vx vy)
    generalize cmpV vx vy = dxy at *
    generalize cmpV vy vx = dyx at *
    generalize cmpV vy vz = dyz at *
    generalize cmpV vx vz = dxz at *
    have hng : -dyx = dxy := hneg.symm
    have hwr : wrap64 dxy = dxy := HWR.out
    have HTR := Lib.hid htr
    clear hneg htr
    go_wp2_with fail
    have k0 := fun d os => cell_regrown p0 d os
    have k1 := fun d os => cell_regrown p1 d os
    have k2 := fun d os => cell_regrown p2 d os
    have k3 := fun d os => cell_regrown q0 d os
    have k4 := fun d os => cell_regrown q1 d os
    have k5 := fun d os => cell_regrown q2 d os
    refine wp_region_quiet_below (by kernel_rfl) (by kernel_rfl) ?_
    repeat (go_big_quiet_step ((first | exact Calls.regrown_of (text_any _) | with_reducible exact Calls.regrown_of (HXY.out _) | with_reducible exact Calls.regrown_of (HYX.out _) | with_reducible exact Calls.regrown_of (HXX.out _) | with_reducible exact Calls.regrown_of (HRR.out _))))
    refine wpQuiet_nil ?_
    rintro w' ⟨⟨dq, osq⟩, rfl⟩
    have hbq := below_regrown wc dq osq
    have p0' := k0 dq osq
    have p1' := k1 dq osq
    have p2' := k2 dq osq
    have q0' := k3 dq osq
    have q1' := k4 dq osq
    have q2' := k5 dq osq
    have r0' := cell_regrown r0 dq osq
    have r1' := cell_regrown r1 dq osq
    have r2' := cell_regrown r2 dq osq
    clear k0 k1 k2 k3 k4 k5 p0 p1 p2 q0 q1 q2 r0 r1 r2 hng
    have hbV : Below w.heap.size w (Go.Sort.grow (redrawn wc dq) osq) := Below.next' hbc hbq hbc.size
    clear hbq hbc
    simp only at p0' p1' p2' q0' q1' q2' r0' r1' r2' ⊢
    generalize Go.Sort.grow (redrawn wc dq) osq = V9 at *
    go_wp2_with fail
    have k0 := fun d os => cell_regrown p0' d os
    have k1 := fun d os => cell_regrown p1' d os
    have k2 := fun d os => cell_regrown p2' d os
    have k3 := fun d os => cell_regrown q0' d os
    have k4 := fun d os => cell_regrown q1' d os
    have k5 := fun d os => cell_regrown q2' d os
    have k6 := fun d os => cell_regrown r0' d os
    have k7 := fun d os => cell_regrown r1' d os
    have k8 := fun d os => cell_regrown r2' d os
    obtain ⟨b, hb⟩ : ∃ b, (dxy == 0) = b := ⟨_, rfl⟩
    rw [hb] at HSM
    have hbb : (b == b) = true := by simp
    by_cases c1' : 0 ≤ dxy
    · have hd1 : decide ((0 : Int) ≤ dxy) = true := decide_eq_true c1'
      clear c1' HTR
      refine wp_region_quiet_below (by kernel_rfl) (by kernel_rfl) ?_
      repeat (go_big_quiet_step ((first | with_reducible exact Calls.regrown_of (HXY.out _) | with_reducible exact Calls.regrown_of (HSM.out _) | with_reducible exact Calls.regrown_of (HYZ.out _) | with_reducible exact Calls.regrown_of (HXZ.out _))))
      refine wpQuiet_nil ?_
      rintro w' ⟨⟨dq', osq'⟩, rfl⟩
      have hbr := below_regrown V9 dq' osq'
      clear k0 k1 k2 k3 k4 k5 k6 k7 k8
      have hbF : Below w.heap.size w (Go.Sort.grow (redrawn V9 dq') osq') := Below.next' hbV hbr hbV.size
      simp only
      generalize Go.Sort.grow (redrawn V9 dq') osq' = V8 at *
      go_wp2_with fail
      go_ret
      exact ⟨rfl, hbF⟩
    · have hd1 : decide ((0 : Int) ≤ dxy) = false := decide_eq_false c1'
      by_cases c2' : 0 ≤ dyz
      · have hd2 : decide ((0 : Int) ≤ dyz) = true := decide_eq_true c2'
        clear c1' c2' HTR
        refine wp_region_quiet_below (by kernel_rfl) (by kernel_rfl) ?_
        repeat (go_big_quiet_step ((first | with_reducible exact Calls.regrown_of (HXY.out _) | with_reducible exact Calls.regrown_of (HSM.out _) | with_reducible exact Calls.regrown_of (HYZ.out _) | with_reducible exact Calls.regrown_of (HXZ.out _))))
        refine wpQuiet_nil ?_
        rintro w' ⟨⟨dq', osq'⟩, rfl⟩
        have hbr := below_regrown V9 dq' osq'
        clear k0 k1 k2 k3 k4 k5 k6 k7 k8
        have hbF : Below w.heap.size w (Go.Sort.grow (redrawn V9 dq') osq') := Below.next' hbV hbr hbV.size
        simp only
        generalize Go.Sort.grow (redrawn V9 dq') osq' = V8 at *
        go_wp2_with fail
        go_ret
        exact ⟨rfl, hbF⟩
      · have hd2 : decide ((0 : Int) ≤ dyz) = false := decide_eq_false c2'
        have hd3 : decide (dxz < 0) = true := decide_eq_true (HTR.out (by omega) (by omega))
        clear c1' c2' HTR
        refine wp_region_quiet_below (by kernel_rfl) (by kernel_rfl) ?_
        repeat (go_big_quiet_step ((first | with_reducible exact Calls.regrown_of (HXY.out _) | with_reducible exact Calls.regrown_of (HSM.out _) | with_reducible exact Calls.regrown_of (HYZ.out _) | with_reducible exact Calls.regrown_of (HXZ.out _))))
        refine wpQuiet_nil ?_
        rintro w' ⟨⟨dq', osq'⟩, rfl⟩
        have hbr := below_regrown V9 dq' osq'
        clear k0 k1 k2 k3 k4 k5 k6 k7 k8
        have hbF : Below w.heap.size w (Go.Sort.grow (redrawn V9 dq') osq') := Below.next' hbV hbr hbV.size
        simp only
        generalize Go.Sort.grow (redrawn V9 dq') osq' = V8 at *
        go_wp2_with fail
        go_ret
        exact ⟨rfl, hbF⟩

end Go.Proofs.Ytocmpinpfhfcoaa
