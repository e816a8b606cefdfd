/-
  The walk of the schedule: a block's words, and those that follow.
-/
import Derived.Test.YtaanaoimnecenaaDoorWA2
import Derived.Test.YtaanaoimnecenaaDoorMemU2
import Derived.StillTailTactics
namespace Go.Proofs.YtaanaoimnecenaaDoor
open Go.RowKit

theorem at36 : ArrT Tryd.prog 130 64 5 := ⟨agg_arr Tryd.underlying130, by kernel_rfl⟩
theorem at43 : ArrT Tryd.prog 104 64 103 := ⟨agg_arr Tryd.underlying104, by kernel_rfl⟩

set_option maxRecDepth 8000 in
set_option maxHeartbeats 4000000 in
theorem schedule_any (p : List UInt8) (w : World) (hp : p.length = 64) :
    Calls Tryd.prog 119 #[.agg (cellsB p).toArray] w fun e w' => e = .returned (.agg (cellsU (sched (own16 p 16) 48)).toArray) ∧ Below w.heap.size w w' := by
  go_enter Tryd.func119, Tryd.ntmps119
  go_wp2_with fail
  go_loopw [4, 5, 11] (fun _ _ i w' => ∃ (k : Nat) (L : List (BitVec 32)), k ≤ 16 ∧ i = .int .i64 k ∧ L.length = 64 ∧ L.take k = own16 p k ∧ ArB w' w.heap.size 0 p ∧ ArU w' (w.heap.size + 1) 0 (List.replicate 64 0) ∧ ArU w' (w.heap.size + 1 + 1) 0 L ∧ Below w.heap.size w w' ∧ w.heap.size + 1 + 1 < w'.heap.size) (fun _ _ i _ => 16 - (intOf i).toNat)
  case atStart =>
    refine ⟨0, List.replicate 64 0, by omega, rfl, by simp, rfl, ?_, ?_, ?_, ?_, by simp⟩
    · exact ((ArB.new _ _ _ _ _ rfl rfl).alloc _).alloc _
    · exact (ArU.new _ _ _ _ _ (by simp) rfl).alloc _
    · exact ArU.new _ _ _ _ _ (by simp) rfl
    · exact (((Below.refl _ _).alloc (Nat.le_refl _) _).alloc (by simp) _).alloc (by simp; omega) _
  case round =>
    obtain ⟨k, L, hk, rfl, hL, hT, hB, hR, hU, hbw, hsz⟩ := hrel
    by_cases hlt : k < 16
    · have c0 := hB.1 (4 * k) (by omega)
      have c1 := hB.1 (4 * k + 1) (by omega)
      have c2 := hB.1 (4 * k + 2) (by omega)
      have c3 := hB.1 (4 * k + 3) (by omega)
      have cU := hU.1 k (by omega)
      have fU := hU.2 k (by omega)
      simp only [Nat.zero_add] at c0 c1 c2 c3 cU fU
      have H4 := Lib.hid (take4 p k (by omega))
      generalize p.getD (4 * k) 0 = b0 at *
      generalize p.getD (4 * k + 1) 0 = b1 at *
      generalize p.getD (4 * k + 2) 0 = b2 at *
      generalize p.getD (4 * k + 3) 0 = b3 at *
      go_wp2_with fail
      have hi0 : 4 * (k : Int) < 64 := by omega
      have hi1 : 4 * (k : Int) + 1 < 64 := by omega
      have hi2 : 4 * (k : Int) + 2 < 64 := by omega
      have hi3 : 4 * (k : Int) + 3 < 64 := by omega
      have hj0 : 0 ≤ 4 * (k : Int) := by omega
      have hj1 : 0 ≤ 4 * (k : Int) + 1 := by omega
      have hj2 : 0 ≤ 4 * (k : Int) + 2 := by omega
      have hj3 : 0 ≤ 4 * (k : Int) + 3 := by omega
      have ht0 : (4 * (k : Int)).toNat = 4 * k := by omega
      have ht1 : (4 * (k : Int) + 1).toNat = 4 * k + 1 := by omega
      have ht2 : (4 * (k : Int) + 2).toNat = 4 * k + 2 := by omega
      have ht3 : (4 * (k : Int) + 3).toNat = 4 * k + 3 := by omega
      have hw1 : IntKind.i64.wrap (4 * (k : Int) + 1) = 4 * (k : Int) + 1 := IntWalk.i64_in _ (by omega)
      have hw2 : IntKind.i64.wrap (4 * (k : Int) + 2) = 4 * (k : Int) + 2 := IntWalk.i64_in _ (by omega)
      have hw3 : IntKind.i64.wrap (4 * (k : Int) + 3) = 4 * (k : Int) + 3 := IntWalk.i64_in _ (by omega)
      have hk6 : (k : Int) < 64 := by omega
      refine wp_region_still_tail 27 (by kernel_rfl) (by kernel_rfl) ?_
      simp only [List.take_succ_cons, List.take_zero, List.drop_succ_cons, List.drop_zero]
      change wpStill _ _ wr.drew _ _ _
      repeat
        refine wpStill_step (fun K hK => ?_)
        go_simp
        refine hK _ ?_
        clear hK K
      refine wpStill_nil ?_
      go_wp2
      go_roundw
      case rel =>
        rw [word_bytes]
        refine ⟨k + 1, L.set k (wd [b0, b1, b2, b3]), by omega, by go_num, by rw [List.length_set]; exact hL, ?_, ?_, ?_, ?_, ?_, ?_⟩
        · rw [set_take L k _ (by omega), hT, own16, H4.out]
        · exact hB.other _ _ (.inl (by simp only; omega))
        · exact hR.other _ _ (.inl (by simp only; omega))
        · have := hU.set k (by omega) (wd [b0, b1, b2, b3])
          rw [Nat.zero_add] at this
          exact this
        · exact (hbw.setCell (by simp; omega) _).drew
        · simpa using hsz
      case measure => simp [intOf]; omega
    · obtain rfl : k = 16 := by omega
      clear hlt hk
      rw [show ((16 : Nat) : Int) = 16 from rfl]
      have HL := Lib.hid hL
      have HT := Lib.hid hT
      clear hL hT
      go_wp2_with fail
      go_loopw [6, 7, 8, 9, 10] (fun i _ _ _ _ w' => ∃ (k : Nat) (L : List (BitVec 32)), k ≤ 48 ∧ i = .int .i64 ((k : Int) + 16) ∧ L.length = 64 ∧ L.take (k + 16) = sched (own16 p 16) k ∧ ArU w' (w.heap.size + 1) 0 (List.replicate 64 0) ∧ ArU w' (w.heap.size + 1 + 1) 0 L ∧ Below w.heap.size w w' ∧ w.heap.size + 1 + 1 < w'.heap.size) (fun i _ _ _ _ _ => 64 - (intOf i).toNat)
      case atStart => exact ⟨0, L, by omega, rfl, HL.out, HT.out, hR, hU, hbw, hsz⟩
      case round =>
        clear hB hR hU hbw hsz HL HT
        obtain ⟨k, L', hk, rfl, hL, hT, hR, hU, hbw, hsz⟩ := hrel
        by_cases hlt : k < 48
        · have hn : nextW (L'.take (k + 16)) = L'.getD k 0 + sm0 (L'.getD (k + 1) 0) + L'.getD (k + 9) 0 + sm1 (L'.getD (k + 14) 0) := by
            unfold nextW
            have : (L'.take (k + 16)).length = k + 16 := by rw [List.length_take]; omega
            rw [this, getD_take _ _ _ (by omega), getD_take _ _ _ (by omega), getD_take _ _ _ (by omega), getD_take _ _ _ (by omega)]
            congr
          have HN := Lib.hid hn
          clear hn
          have c0 := hU.1 k (by omega)
          have c1 := hU.1 (k + 1) (by omega)
          have c9 := hU.1 (k + 9) (by omega)
          have c14 := hU.1 (k + 14) (by omega)
          have cU := hU.1 (k + 16) (by omega)
          have fU := hU.2 (k + 16) (by omega)
          simp only [Nat.zero_add] at c0 c1 c9 c14 cU fU
          generalize L'.getD k 0 = x0 at *
          generalize L'.getD (k + 1) 0 = x1 at *
          generalize L'.getD (k + 9) 0 = x9 at *
          generalize L'.getD (k + 14) 0 = x14 at *
          have HL := Lib.hid hL
          have HT := Lib.hid hT
          clear hL hT
          go_wp2_with fail
          go_quiet (fail)
          have kx := U_xor
          have kp := U_add
          have k3 : ∀ a b : BitVec 32, bits .xor .u32 (U a) (U b / 8) = U (a ^^^ b >>> 3) := fun a b => by rw [← U_xor, ← U_shr]; rfl
          have k10 : ∀ a b : BitVec 32, bits .xor .u32 (U a) (U b / 1024) = U (a ^^^ b >>> 10) := fun a b => by rw [← U_xor, ← U_shr]; rfl
          go_wp2_with fail
          refine (right_at x1 _ 7 _ rfl (by omega) (by omega)).mono ?_
          rintro _ _ ⟨rfl, rfl⟩
          go_wp2_with fail
          refine (right_at x1 _ 18 _ rfl (by omega) (by omega)).mono ?_
          rintro _ _ ⟨rfl, rfl⟩
          go_wp2_with fail
          refine (right_at x14 _ 17 _ rfl (by omega) (by omega)).mono ?_
          rintro _ _ ⟨rfl, rfl⟩
          go_wp2_with fail
          refine (right_at x14 _ 19 _ rfl (by omega) (by omega)).mono ?_
          rintro _ _ ⟨rfl, rfl⟩
          go_wp2_with fail
          have hw0 : IntKind.i64.wrap ((k : Int) + 16 - 16) = (k : Int) := by rw [IntWalk.i64_in _ (by omega)]; omega
          have hw9 : IntKind.i64.wrap ((k : Int) + 16 - 7) = (k : Int) + 9 := by rw [IntWalk.i64_in _ (by omega)]; omega
          have hw0' : IntKind.i64.wrap (k : Int) = (k : Int) := IntWalk.i64_in _ (by omega)
          have hw9' : IntKind.i64.wrap ((k : Int) + 9) = (k : Int) + 9 := IntWalk.i64_in _ (by omega)
          have ha0 : (k : Int) < 64 := by omega
          have ha9 : (k : Int) + 9 < 64 := by omega
          have hb9 : 0 ≤ (k : Int) + 9 := by omega
          have ht9 : ((k : Int) + 9).toNat = k + 9 := by omega
          have ha16 : (k : Int) + 16 < 64 := by omega
          have hb16 : 0 ≤ (k : Int) + 16 := by omega
          have ht16 : ((k : Int) + 16).toNat = k + 16 := by omega
          refine wp_region_still_tail 15 (by kernel_rfl) (by kernel_rfl) ?_
          simp only [List.take_succ_cons, List.take_zero, List.drop_succ_cons, List.drop_zero]
          change wpStill _ _ (wr.drewN nq).drew _ _ _
          repeat
            refine wpStill_step (fun K hK => ?_)
            go_simp
            refine hK _ ?_
            clear hK K
          refine wpStill_nil ?_
          change wpList _ _ _ _ _ (wr.drewN nq).drew
          clear kx kp k3 k10 hw0 hw9 hw0' hw9' ha0 ha9 hb9 ht9 c0 c1 c9 c14
          go_wp2
          go_roundw
          case rel =>
            refine ⟨k + 1, L'.set (k + 16) (x0 + (ror x1 7 ^^^ ror x1 18 ^^^ x1 >>> 3) + x9 + (ror x14 17 ^^^ ror x14 19 ^^^ x14 >>> 10)), by omega, by go_num, by rw [List.length_set]; exact HL.out, ?_, ?_, ?_, ?_, ?_⟩
            · rw [show k + 1 + 16 = k + 16 + 1 from by omega, set_take L' _ _ (by rw [HL.out]; omega), sched, ← HT.out, HN.out]
              rfl
            · exact hR.other _ _ (.inl (by simp only; omega))
            · have := hU.set (k + 16) (by rw [HL.out]; omega) (x0 + (ror x1 7 ^^^ ror x1 18 ^^^ x1 >>> 3) + x9 + (ror x14 17 ^^^ ror x14 19 ^^^ x14 >>> 10))
              rw [Nat.zero_add] at this
              exact this
            · exact (Below.drewN' (hbw.setCell (by simp only; omega) _) nq).drew
            · simpa using hsz
          case measure => simp [intOf]; omega
        · obtain rfl : k = 48 := by omega
          have HS : Hid (List.take (48 + 16) L' = sched (own16 p 16) 48) := Lib.hid hT
          clear hT hlt hk
          have htk : List.take (48 + 16) L' = L' := List.take_of_length_le (by omega)
          have HTK := Lib.hid htk
          clear htk
          have hn64 : (cellsU L').toArray.size = 64 := by rw [List.size_toArray, cellsU_length]; exact hL
          have hl := hU.load (P := Tryd.prog) 64 hL
          have hs := hR.store (P := Tryd.prog) (L := L') (by rw [hL]; simp)
          have hst := hR.stored (L := L') (by rw [hL]; simp)
          have hl2 := hst.load (P := Tryd.prog) 64 hL
          have HA := Lib.hid hn64
          have HB := Lib.hid hl
          have HC := Lib.hid hs
          have HD := Lib.hid hl2
          clear hL hn64 hl hs hst hl2
          go_upto_region 15 with fail
          apply wp_region_lit
          refine wpList_load_arr _ rfl (.tmp 3) _ _ _ at43 rfl _ _ rfl _ HB.out ?_
          refine wpList_store_arr _ _ rfl (.tmp 2) (.tmp 87) _ _ _ at43 rfl _ _ rfl _ rfl HA.out HC.out ?_
          go_wp2
          refine bodyPost_ret (v := .agg (cellsU L').toArray) ?_ rfl ⟨?_, ?_⟩
          · exact results_arr _ Tryd.results119 _ at43 _ _ rfl _ HD.out
          · rw [← HS.out, HTK.out]
          · exact Below.setCells _ (by omega) _ _ _ hbw

end Go.Proofs.YtaanaoimnecenaaDoor
