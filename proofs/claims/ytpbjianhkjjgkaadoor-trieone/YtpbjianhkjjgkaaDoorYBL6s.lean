/-
  The walk of the document's Same and of the law TrieOne.
-/
import Derived.Test.YtpbjianhkjjgkaaDoorYBL5
namespace Go.Proofs.YtpbjianhkjjgkaaDoor
open Go.RowKit

theorem run_kx (W : World) (k : Nat) (hk : k < 256) :
    (convert 29 9 (.slice (some ⟨W.heap.size, 0, none⟩) 2 2)).run Tryd.prog (W.alloc (.cells #[.int .u8 120, .int .u8 (k : Int)] 5)) = .ok (.string (keyOf (24 + k))) (W.alloc (.cells #[.int .u8 120, .int .u8 (k : Int)] 5)) := by
  rw [run_string_seg (P := Tryd.prog) _ 29 9 5 bt Tryd.underlying9 _ 2 2 [120, UInt8.ofNat k] (Seg.newAt W _ 5 _ _ 2 rfl (by simp [cellsB]; omega) rfl)]
  unfold keyOf keyB
  rw [if_neg (by omega), Nat.add_sub_cancel_left]

set_option maxRecDepth 8000 in
set_option maxHeartbeats 16000000 in
theorem rsame_any (A B : Option Addr) (n p c d : Nat) (S R : List ItS) (m q : List It) (w : World) (ha : SegG itLay w A n S) (hb : SegG itLay w B p R) (hi : ItsAt w S m) (hj : ItsAt w R q) (hm : Its m) (hq : Its q) (hrm : ∀ x ∈ m, x.2.length ≤ 100000) :
    Calls Tryd.prog 31 #[.slice A n c, .slice B p d] w fun e w' => (∃ b, e = .returned (.bool b) ∧ (b = true → m = q)) ∧ Below w.heap.size w w' := by
  have hml := its_len hm
  have hql := its_len hq
  have hnm : m.length = n := by rw [← hi.len, ha.1]
  have hpq : q.length = p := by rw [← hj.len, hb.1]
  have HNM := Lib.hid hnm
  have HPQ := Lib.hid hpq
  have HM := Lib.hid hm
  have HQ := Lib.hid hq
  have HR := Lib.hid hrm
  by_cases hnp : n = p
  · subst hnp
    have hne : ((n : Int) != (n : Int)) = false := by simp
    clear hm hq hrm
    go_enter Tryd.func31, Tryd.ntmps31
    go_wp2
    go_loopw [5] (fun i w' => ∃ k : Nat, k ≤ n ∧ i = .int .i64 (k : Int) ∧ m.take k = q.take k ∧ Below w.heap.size w w') (fun i _ => n - (intOf i).toNat)
    case atStart => exact ⟨0, by omega, rfl, by simp, Below.refl _ _⟩
    case round =>
      obtain ⟨k, hk, rfl, htk, hbw⟩ := hrel
      by_cases hlt : k < n
      · have h1 : k < S.length := by rw [ha.1]; exact hlt
        have h2 : k < R.length := by rw [hb.1]; exact hlt
        have h3 : k < m.length := by omega
        have h4 : k < q.length := by omega
        have hx := ItsAt.at_ hi k h1 h3
        have hy := ItsAt.at_ hj k h2 h4
        obtain ⟨g, o, rfl, hc⟩ := (ha.below hbw).at_ hlt
        obtain ⟨g', o', rfl, hc'⟩ := (hb.below hbw).at_ hlt
        obtain ⟨sx, hsx⟩ : ∃ s, S[k]'h1 = s := ⟨_, rfl⟩
        obtain ⟨sy, hsy⟩ : ∃ s, R[k]'h2 = s := ⟨_, rfl⟩
        have HTS := Lib.hid (fun (e : m[k]'h3 = q[k]'h4) => its_take_succ m k h3 q h4 htk e)
        have hmx := List.getElem_mem h3
        have hmy := List.getElem_mem h4
        obtain ⟨x, hxe⟩ : ∃ x, m[k]'h3 = x := ⟨_, rfl⟩
        obtain ⟨y, hye⟩ : ∃ y, q[k]'h4 = y := ⟨_, rfl⟩
        have c0 := hc 0 (.string sx.s) (by rw [hsx]; rfl)
        have c1 := hc 1 (.slice sx.A sx.n sx.c) (by rw [hsx]; rfl)
        have e0 := hc' 0 (.string sy.s) (by rw [hsy]; rfl)
        have e1 := hc' 1 (.slice sy.A sy.n sy.c) (by rw [hsy]; rfl)
        rw [hsx, hxe] at hx
        rw [hsy, hye] at hy
        rw [hxe] at hmx HTS
        rw [hye] at hmy HTS
        have hxd := HM.out.2 x hmx
        have hyd := HQ.out.2 y hmy
        have hxr := HR.out x hmx
        obtain ⟨hxk, hxs, hxn, hxc⟩ := hx
        obtain ⟨hyk, hys, hyn, hyc⟩ := hy
        rw [show itLay.z = 2 from rfl] at c0 c1 e0 e1
        rw [Nat.add_zero] at c0 e0
        rw [hxk] at c0
        rw [hyk] at e0
        have hxs := hxs.below hbw
        have hys := hys.below hbw
        obtain ⟨xu, xl⟩ := x
        obtain ⟨yu, yl⟩ := y
        obtain ⟨xs, xA, xn, xc⟩ := sx
        obtain ⟨ys, yA, yn, yc⟩ := sy
        dsimp only at *
        have hxnl := hxs.1
        clear hc hc' hsx hsy hxe hye ha hb hi hj hmx hmy htk hxk hyk
        have HKK := Lib.hid (fun (e : keyOf xu = keyOf yu) => keyOf_inj hxd hyd e)
        obtain ⟨KX, hKX⟩ : ∃ KX, keyOf xu = KX := ⟨_, rfl⟩
        obtain ⟨KY, hKY⟩ : ∃ KY, keyOf yu = KY := ⟨_, rfl⟩
        rw [hKX] at c0 HKK
        rw [hKY] at e0 HKK
        clear hKX hKY
        rename World => wl
        by_cases hkk : KX = KY
        · have hqk : (KX.toList == KY.toList) = true := by rw [hkk]; simp
          have hxy := HKK.out hkk
          subst hxy
          clear hkk HKK
          have HBY := Lib.hid (fun W (h : Below wl.heap.size wl W) => bytes_any xA yA xn yn xc yc xl yl W (hxs.below h) (hys.below h) (by simp only [maxLen]; omega))
          go_wp2
          refine wp_region_noPanic (wp_region_tills (fun W' => W'.cell? ⟨g, o + k * 2, none⟩ = some (.string KX) ∧ W'.cell? ⟨g, o + k * 2 + 1, none⟩ = some (.slice xA xn xc) ∧ W'.cell? ⟨g', o' + k * 2, none⟩ = some (.string KY) ∧ W'.cell? ⟨g', o' + k * 2 + 1, none⟩ = some (.slice yA yn yc)) (fun j => decide (24 ≤ j)) (by kernel_rfl) ?_)
          have hD := belD wl 1
          have c0 := cell_below hD c0
          have c1 := cell_below hD c1
          have e0 := cell_below hD e0
          have e1 := cell_below hD e1
          change wpAnyS _ _ _ _ _ _ 25 _ _ (wl.drewN 1)
          refine wpAnyS_take (i := 0) (v := .slice (some ⟨g, o, none⟩) n c) rfl (by kernel_rfl) (fun _ _ _ h => h) ⟨c0, c1, e0, e1⟩ (Or.inl ⟨by kernel_rfl, fun W' hW => by obtain ⟨q0, q1, q2, q3⟩ := hW; go_simp⟩) ?_
          refine wpAnyS_take (i := 1) (v := .int .i64 (k : Int)) rfl (by kernel_rfl) (fun _ _ _ h => h) ⟨c0, c1, e0, e1⟩ (Or.inl ⟨by kernel_rfl, fun W' hW => by obtain ⟨q0, q1, q2, q3⟩ := hW; go_simp⟩) ?_
          refine wpAnyS_take (i := 2) (v := .pointer (some ⟨g, o + k * 2, none⟩)) rfl (by kernel_rfl) (fun _ _ _ h => h) ⟨c0, c1, e0, e1⟩ (Or.inl ⟨by kernel_rfl, fun W' hW => by obtain ⟨q0, q1, q2, q3⟩ := hW; go_simp⟩) ?_
          refine wpAnyS_take (i := 3) (v := .pointer (some ⟨g, o + k * 2, none⟩)) rfl (by kernel_rfl) (fun _ _ _ h => h) ⟨c0, c1, e0, e1⟩ (Or.inl ⟨by kernel_rfl, fun W' hW => by obtain ⟨q0, q1, q2, q3⟩ := hW; go_simp⟩) ?_
          refine wpAnyS_take (i := 4) (v := .string KX) rfl (by kernel_rfl) (fun _ _ _ h => h) ⟨c0, c1, e0, e1⟩ (Or.inl ⟨by kernel_rfl, fun W' hW => by obtain ⟨q0, q1, q2, q3⟩ := hW; go_simp⟩) ?_
          refine wpAnyS_take (i := 5) (v := .slice (some ⟨g', o', none⟩) n d) rfl (by kernel_rfl) (fun _ _ _ h => h) ⟨c0, c1, e0, e1⟩ (Or.inl ⟨by kernel_rfl, fun W' hW => by obtain ⟨q0, q1, q2, q3⟩ := hW; go_simp⟩) ?_
          refine wpAnyS_take (i := 6) (v := .int .i64 (k : Int)) rfl (by kernel_rfl) (fun _ _ _ h => h) ⟨c0, c1, e0, e1⟩ (Or.inl ⟨by kernel_rfl, fun W' hW => by obtain ⟨q0, q1, q2, q3⟩ := hW; go_simp⟩) ?_
          refine wpAnyS_take (i := 7) (v := .pointer (some ⟨g', o' + k * 2, none⟩)) rfl (by kernel_rfl) (fun _ _ _ h => h) ⟨c0, c1, e0, e1⟩ (Or.inl ⟨by kernel_rfl, fun W' hW => by obtain ⟨q0, q1, q2, q3⟩ := hW; go_simp⟩) ?_
          refine wpAnyS_take (i := 8) (v := .pointer (some ⟨g', o' + k * 2, none⟩)) rfl (by kernel_rfl) (fun _ _ _ h => h) ⟨c0, c1, e0, e1⟩ (Or.inl ⟨by kernel_rfl, fun W' hW => by obtain ⟨q0, q1, q2, q3⟩ := hW; go_simp⟩) ?_
          refine wpAnyS_take (i := 9) (v := .string KY) rfl (by kernel_rfl) (fun _ _ _ h => h) ⟨c0, c1, e0, e1⟩ (Or.inl ⟨by kernel_rfl, fun W' hW => by obtain ⟨q0, q1, q2, q3⟩ := hW; go_simp⟩) ?_
          refine wpAnyS_take (i := 10) (v := .bool false) rfl (by kernel_rfl) (fun _ _ _ h => h) ⟨c0, c1, e0, e1⟩ (Or.inl ⟨by kernel_rfl, fun W' hW => by obtain ⟨q0, q1, q2, q3⟩ := hW; go_simp⟩) ?_
          refine wpAnyS_take (i := 11) (v := .bool false) rfl (by kernel_rfl) (fun _ _ _ h => h) ⟨c0, c1, e0, e1⟩ (Or.inl ⟨by kernel_rfl, fun W' hW => by obtain ⟨q0, q1, q2, q3⟩ := hW; go_simp⟩) ?_
          refine wpAnyS_take (i := 12) (v := .slice (some ⟨g, o, none⟩) n c) rfl (by kernel_rfl) (fun _ _ _ h => h) ⟨c0, c1, e0, e1⟩ (Or.inl ⟨by kernel_rfl, fun W' hW => by obtain ⟨q0, q1, q2, q3⟩ := hW; go_simp⟩) ?_
          refine wpAnyS_take (i := 13) (v := .int .i64 (k : Int)) rfl (by kernel_rfl) (fun _ _ _ h => h) ⟨c0, c1, e0, e1⟩ (Or.inl ⟨by kernel_rfl, fun W' hW => by obtain ⟨q0, q1, q2, q3⟩ := hW; go_simp⟩) ?_
          refine wpAnyS_take (i := 14) (v := .pointer (some ⟨g, o + k * 2, none⟩)) rfl (by kernel_rfl) (fun _ _ _ h => h) ⟨c0, c1, e0, e1⟩ (Or.inl ⟨by kernel_rfl, fun W' hW => by obtain ⟨q0, q1, q2, q3⟩ := hW; go_simp⟩) ?_
          refine wpAnyS_take (i := 15) (v := .pointer (some ⟨g, o + k * 2 + 1, none⟩)) rfl (by kernel_rfl) (fun _ _ _ h => h) ⟨c0, c1, e0, e1⟩ (Or.inl ⟨by kernel_rfl, fun W' hW => by obtain ⟨q0, q1, q2, q3⟩ := hW; go_simp⟩) ?_
          refine wpAnyS_take (i := 16) (v := .slice xA xn xc) rfl (by kernel_rfl) (fun _ _ _ h => h) ⟨c0, c1, e0, e1⟩ (Or.inl ⟨by kernel_rfl, fun W' hW => by obtain ⟨q0, q1, q2, q3⟩ := hW; go_simp⟩) ?_
          refine wpAnyS_take (i := 17) (v := .slice (some ⟨g', o', none⟩) n d) rfl (by kernel_rfl) (fun _ _ _ h => h) ⟨c0, c1, e0, e1⟩ (Or.inl ⟨by kernel_rfl, fun W' hW => by obtain ⟨q0, q1, q2, q3⟩ := hW; go_simp⟩) ?_
          refine wpAnyS_take (i := 18) (v := .int .i64 (k : Int)) rfl (by kernel_rfl) (fun _ _ _ h => h) ⟨c0, c1, e0, e1⟩ (Or.inl ⟨by kernel_rfl, fun W' hW => by obtain ⟨q0, q1, q2, q3⟩ := hW; go_simp⟩) ?_
          refine wpAnyS_take (i := 19) (v := .pointer (some ⟨g', o' + k * 2, none⟩)) rfl (by kernel_rfl) (fun _ _ _ h => h) ⟨c0, c1, e0, e1⟩ (Or.inl ⟨by kernel_rfl, fun W' hW => by obtain ⟨q0, q1, q2, q3⟩ := hW; go_simp⟩) ?_
          refine wpAnyS_take (i := 20) (v := .pointer (some ⟨g', o' + k * 2 + 1, none⟩)) rfl (by kernel_rfl) (fun _ _ _ h => h) ⟨c0, c1, e0, e1⟩ (Or.inl ⟨by kernel_rfl, fun W' hW => by obtain ⟨q0, q1, q2, q3⟩ := hW; go_simp⟩) ?_
          refine wpAnyS_take (i := 21) (v := .slice yA yn yc) rfl (by kernel_rfl) (fun _ _ _ h => h) ⟨c0, c1, e0, e1⟩ (Or.inl ⟨by kernel_rfl, fun W' hW => by obtain ⟨q0, q1, q2, q3⟩ := hW; go_simp⟩) ?_
          refine wpAnyS_stepg 22 rfl (by decide +kernel) (by kernel_rfl) ?_
          go_wp2_with fail
          refine (HBY.out _ hD).mono ?_
          rintro e5 w5 ⟨rfl, u, rfl⟩
          have hD2 := belD (wl.drewN 1) u
          have c0 := cell_below hD2 c0
          have c1 := cell_below hD2 c1
          have e0 := cell_below hD2 e0
          have e1 := cell_below hD2 e1
          have hbw2 := Below.next' hbw (Below.next' hD hD2 hD.size) hbw.size
          clear hD hD2 HBY
          generalize (wl.drewN 1).drewN u = w6 at *
          go_wp2_with fail
          refine ⟨.inr ⟨c0, c1, e0, e1⟩, ?_⟩
          refine wpAnyS_stepg 23 rfl (by decide +kernel) (by kernel_rfl) ?_
          go_wp2_with fail
          refine ⟨.inr ⟨c0, c1, e0, e1⟩, ?_⟩
          refine wpAnyS_step 24 rfl (by decide +kernel) ?_
          go_wp2_with fail
          refine ⟨.inl rfl, ?_⟩
          refine wpAnyS_done (by decide +kernel) (NoPanic.normal ?_)
          by_cases hll : xl = yl
          · have hbb : (xl == yl) = true := by rw [hll]; simp
            rw [hbb]
            go_wp2
            go_roundw
            case rel => exact ⟨k + 1, hlt, by go_num, HTS.out (by rw [hll]), hbw2⟩
            case measure => simp [intOf]; omega
          · have hbb : (xl == yl) = false := by simpa using hll
            rw [hbb]
            go_wp2
            go_ret
            exact ⟨⟨false, rfl, fun h => by cases h⟩, hbw2⟩
        · have hqk : (KX.toList == KY.toList) = false := by
            rw [beq_eq_false_iff_ne, ne_eq, toList_inj]
            exact hkk
          clear hkk HKK
          go_wp2
          refine wp_region_noPanic (wp_region_tills (fun W' => W'.cell? ⟨g, o + k * 2, none⟩ = some (.string KX) ∧ W'.cell? ⟨g', o' + k * 2, none⟩ = some (.string KY)) (fun j => decide (24 ≤ j)) (by kernel_rfl) ?_)
          have hD := belD wl 1
          have c0 := cell_below hD c0
          have e0 := cell_below hD e0
          change wpAnyS _ _ _ _ _ _ 25 _ _ (wl.drewN 1)
          refine wpAnyS_take (i := 0) (v := .slice (some ⟨g, o, none⟩) n c) rfl (by kernel_rfl) (fun _ _ _ h => h) ⟨c0, e0⟩ (Or.inl ⟨by kernel_rfl, fun W' hW => by obtain ⟨q0, q1⟩ := hW; go_simp⟩) ?_
          refine wpAnyS_take (i := 1) (v := .int .i64 (k : Int)) rfl (by kernel_rfl) (fun _ _ _ h => h) ⟨c0, e0⟩ (Or.inl ⟨by kernel_rfl, fun W' hW => by obtain ⟨q0, q1⟩ := hW; go_simp⟩) ?_
          refine wpAnyS_take (i := 2) (v := .pointer (some ⟨g, o + k * 2, none⟩)) rfl (by kernel_rfl) (fun _ _ _ h => h) ⟨c0, e0⟩ (Or.inl ⟨by kernel_rfl, fun W' hW => by obtain ⟨q0, q1⟩ := hW; go_simp⟩) ?_
          refine wpAnyS_take (i := 3) (v := .pointer (some ⟨g, o + k * 2, none⟩)) rfl (by kernel_rfl) (fun _ _ _ h => h) ⟨c0, e0⟩ (Or.inl ⟨by kernel_rfl, fun W' hW => by obtain ⟨q0, q1⟩ := hW; go_simp⟩) ?_
          refine wpAnyS_take (i := 4) (v := .string KX) rfl (by kernel_rfl) (fun _ _ _ h => h) ⟨c0, e0⟩ (Or.inl ⟨by kernel_rfl, fun W' hW => by obtain ⟨q0, q1⟩ := hW; go_simp⟩) ?_
          refine wpAnyS_take (i := 5) (v := .slice (some ⟨g', o', none⟩) n d) rfl (by kernel_rfl) (fun _ _ _ h => h) ⟨c0, e0⟩ (Or.inl ⟨by kernel_rfl, fun W' hW => by obtain ⟨q0, q1⟩ := hW; go_simp⟩) ?_
          refine wpAnyS_take (i := 6) (v := .int .i64 (k : Int)) rfl (by kernel_rfl) (fun _ _ _ h => h) ⟨c0, e0⟩ (Or.inl ⟨by kernel_rfl, fun W' hW => by obtain ⟨q0, q1⟩ := hW; go_simp⟩) ?_
          refine wpAnyS_take (i := 7) (v := .pointer (some ⟨g', o' + k * 2, none⟩)) rfl (by kernel_rfl) (fun _ _ _ h => h) ⟨c0, e0⟩ (Or.inl ⟨by kernel_rfl, fun W' hW => by obtain ⟨q0, q1⟩ := hW; go_simp⟩) ?_
          refine wpAnyS_take (i := 8) (v := .pointer (some ⟨g', o' + k * 2, none⟩)) rfl (by kernel_rfl) (fun _ _ _ h => h) ⟨c0, e0⟩ (Or.inl ⟨by kernel_rfl, fun W' hW => by obtain ⟨q0, q1⟩ := hW; go_simp⟩) ?_
          refine wpAnyS_take (i := 9) (v := .string KY) rfl (by kernel_rfl) (fun _ _ _ h => h) ⟨c0, e0⟩ (Or.inl ⟨by kernel_rfl, fun W' hW => by obtain ⟨q0, q1⟩ := hW; go_simp⟩) ?_
          refine wpAnyS_take (i := 10) (v := .bool true) rfl (by kernel_rfl) (fun _ _ _ h => h) ⟨c0, e0⟩ (Or.inl ⟨by kernel_rfl, fun W' hW => by obtain ⟨q0, q1⟩ := hW; go_simp⟩) ?_
          refine wpAnyS_take (i := 11) (v := .bool true) rfl (by kernel_rfl) (fun _ _ _ h => h) ⟨c0, e0⟩ (Or.inl ⟨by kernel_rfl, fun W' hW => by obtain ⟨q0, q1⟩ := hW; go_simp⟩) ?_
          refine wpAnyS_take (i := 12) (v := undef) rfl (by kernel_rfl) (fun _ _ _ h => h) ⟨c0, e0⟩ (Or.inr ⟨by kernel_rfl, rfl⟩) ?_
          refine wpAnyS_take (i := 13) (v := undef) rfl (by kernel_rfl) (fun _ _ _ h => h) ⟨c0, e0⟩ (Or.inr ⟨by kernel_rfl, rfl⟩) ?_
          refine wpAnyS_take (i := 14) (v := undef) rfl (by kernel_rfl) (fun _ _ _ h => h) ⟨c0, e0⟩ (Or.inr ⟨by kernel_rfl, rfl⟩) ?_
          refine wpAnyS_take (i := 15) (v := undef) rfl (by kernel_rfl) (fun _ _ _ h => h) ⟨c0, e0⟩ (Or.inr ⟨by kernel_rfl, rfl⟩) ?_
          refine wpAnyS_take (i := 16) (v := undef) rfl (by kernel_rfl) (fun _ _ _ h => h) ⟨c0, e0⟩ (Or.inr ⟨by kernel_rfl, rfl⟩) ?_
          refine wpAnyS_take (i := 17) (v := undef) rfl (by kernel_rfl) (fun _ _ _ h => h) ⟨c0, e0⟩ (Or.inr ⟨by kernel_rfl, rfl⟩) ?_
          refine wpAnyS_take (i := 18) (v := undef) rfl (by kernel_rfl) (fun _ _ _ h => h) ⟨c0, e0⟩ (Or.inr ⟨by kernel_rfl, rfl⟩) ?_
          refine wpAnyS_take (i := 19) (v := undef) rfl (by kernel_rfl) (fun _ _ _ h => h) ⟨c0, e0⟩ (Or.inr ⟨by kernel_rfl, rfl⟩) ?_
          refine wpAnyS_take (i := 20) (v := undef) rfl (by kernel_rfl) (fun _ _ _ h => h) ⟨c0, e0⟩ (Or.inr ⟨by kernel_rfl, rfl⟩) ?_
          refine wpAnyS_take (i := 21) (v := undef) rfl (by kernel_rfl) (fun _ _ _ h => h) ⟨c0, e0⟩ (Or.inr ⟨by kernel_rfl, rfl⟩) ?_
          refine wpAnyS_take (i := 22) (v := undef) rfl (by kernel_rfl) (fun _ _ _ h => h) ⟨c0, e0⟩ (Or.inr ⟨by kernel_rfl, rfl⟩) ?_
          refine wpAnyS_take (i := 23) (v := undef) rfl (by kernel_rfl) (fun _ _ _ h => h) ⟨c0, e0⟩ (Or.inr ⟨by kernel_rfl, rfl⟩) ?_
          refine wpAnyS_step 24 rfl (by decide +kernel) ?_
          go_wp2_with fail
          refine ⟨.inl rfl, ?_⟩
          refine wpAnyS_done (by decide +kernel) (NoPanic.normal ?_)
          go_wp2
          go_ret
          exact ⟨⟨false, rfl, fun h => by cases h⟩, Below.next' hbw hD hbw.size⟩
      · obtain rfl : k = n := by omega
        have hmq : m = q := by
          rw [List.take_of_length_le (by omega), List.take_of_length_le (by omega)] at htk
          exact htk
        have HMQ := Lib.hid hmq
        clear hmq htk ha hb hi hj
        go_wp2
        go_ret
        exact ⟨⟨true, rfl, fun _ => HMQ.out⟩, hbw⟩
  · have hne : ((n : Int) != (p : Int)) = true := by simp; omega
    clear ha hb hi hj hm hq hrm
    go_enter Tryd.func31, Tryd.ntmps31
    go_wp2
    go_ret
    exact ⟨⟨false, rfl, fun h => by cases h⟩, Below.refl _ _⟩

end Go.Proofs.YtpbjianhkjjgkaaDoor
