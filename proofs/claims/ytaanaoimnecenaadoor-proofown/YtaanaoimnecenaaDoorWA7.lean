/-
  The walks of text and of the program's Sum.
-/
import Derived.Test.YtaanaoimnecenaaDoorWA6
namespace Go.Proofs.YtaanaoimnecenaaDoor
open Go.RowKit

theorem at51 : ArrT Tryd.prog 152 32 5 := ⟨agg_arr Tryd.underlying152, by kernel_rfl⟩

theorem ArB.seg {w : World} {g o : Nat} {l : List UInt8} (h : ArB w g o l) : Seg w (some ⟨g, o, none⟩) l.length l := by
  refine ⟨rfl, fun _ => ⟨g, o, rfl, fun j b hb => ?_⟩⟩
  have hj := (List.getElem?_eq_some_iff.1 hb).1
  rw [h.1 j hj, List.getD_eq_getElem?_getD, hb]
  rfl

theorem set_take4 (l : List UInt8) (k : Nat) (a b c d : UInt8) (h : 4 * k + 3 < l.length) : ((((l.set (4 * k) a).set (4 * k + 1) b).set (4 * k + 2) c).set (4 * k + 3) d).take (4 * (k + 1)) = l.take (4 * k) ++ [a, b, c, d] := by
  rw [show 4 * (k + 1) = 4 * k + 3 + 1 from by omega, set_take8 _ _ _ (by simp; omega), set_take8 _ _ _ (by simp; omega), set_take8 _ _ _ (by simp; omega), set_take8 _ _ _ (by omega)]
  simp
theorem U_bytes (x : BitVec 32) : U x / 16777216 % 256 = ((UInt8.ofNat (x.toNat / 2 ^ (8 * 3))).toNat : Int) ∧ U x / 65536 % 256 = ((UInt8.ofNat (x.toNat / 2 ^ (8 * 2))).toNat : Int) ∧ U x / 256 % 256 = ((UInt8.ofNat (x.toNat / 2 ^ (8 * 1))).toNat : Int) ∧ U x % 256 = ((UInt8.ofNat (x.toNat / 2 ^ (8 * 0))).toNat : Int) := by
  have b3 := high_byte x.toNat 3
  have b2 := high_byte x.toNat 2
  have b1 := high_byte x.toNat 1
  have b0 := high_byte x.toNat 0
  rw [show ((2 : Int) ^ (8 * 3)) = 16777216 from by decide] at b3
  rw [show ((2 : Int) ^ (8 * 2)) = 65536 from by decide] at b2
  rw [show ((2 : Int) ^ (8 * 1)) = 256 from by decide] at b1
  rw [show ((2 : Int) ^ (8 * 0)) = 1 from by decide, Int.ediv_one] at b0
  exact ⟨b3, b2, b1, b0⟩
theorem run_index35 (w : World) (L : List (BitVec 32)) (k : Nat) (x : BitVec 32) (hk : k < 8) (hx : (cellsU L)[k]? = some (.int .u32 (U x))) :
    (Instr.index 106 (.agg (cellsU L).toArray) (.int .i64 k)).run Tryd.prog w = .ok (.int .u32 (U x)) w := by
  obtain ⟨i, hi, hs⟩ := Option.map_eq_some_iff.1 (show (Tryd.prog.info? 103).map (·.size) = some 1 by kernel_rfl)
  simp [Instr.index, asIntOf, run_underlying Tryd.underlying106, run_underlying Tryd.underlying103, isAgg, sizeOf, typeInfo, hi, hs, Go.part, hk, hx]

set_option maxRecDepth 8000 in
set_option maxHeartbeats 4000000 in
theorem text_any (g : Nat) (s : S8) (blk : List UInt8) (u : Nat) (w : World) (hh : Hs w g s blk u) :
    Calls Tryd.prog 93 #[.pointer (some ⟨g, 0, none⟩)] w fun e w' => e = .returned (.string ⟨(out8 s).toArray⟩) ∧ Below w.heap.size w w' := by
  have HD := Lib.hid ((hh.words.alloc (.cells (cellsB (List.replicate 32 0)).toArray 152)).load (P := Tryd.prog) 8 rfl)
  have HO : Hid (out8 s = s.list.flatMap (fun x => high x.toNat 4)) := Lib.hid rfl
  have H8 : Hid (s.list.length = 8) := Lib.hid rfl
  generalize out8 s = O at *
  clear hh
  generalize s.list = L at *
  go_enter Tryd.func93, Tryd.ntmps93
  go_wp2_with (refine wpList_load_arr _ rfl (.tmp 9) _ _ _ at35 rfl _ _ rfl _ HD.out ?_)
  go_loopw [4, 5, 6, 11] (fun _ _ _ i w' => ∃ (k : Nat) (l : List UInt8), k ≤ 8 ∧ i = .int .i64 k ∧ l.length = 32 ∧ l.take (4 * k) = (L.take k).flatMap (fun x => high x.toNat 4) ∧ ArB w' w.heap.size 0 l ∧ Below w.heap.size w w') (fun _ _ _ i _ => 8 - (intOf i).toNat)
  case atStart => exact ⟨0, List.replicate 32 0, by omega, rfl, by simp, rfl, ArB.new _ _ _ _ _ rfl rfl, (Below.refl _ _).alloc (Nat.le_refl _) _⟩
  case round =>
    obtain ⟨k, l, hk, rfl, hl, hT, hB, hbw⟩ := hrel
    by_cases hlt : k < 8
    · have c0 := hB.1 (4 * k) (by omega)
      have c1 := hB.1 (4 * k + 1) (by omega)
      have c2 := hB.1 (4 * k + 2) (by omega)
      have c3 := hB.1 (4 * k + 3) (by omega)
      have f0 := hB.2 (4 * k) (by omega)
      have f1 := hB.2 (4 * k + 1) (by omega)
      have f2 := hB.2 (4 * k + 2) (by omega)
      have f3 := hB.2 (4 * k + 3) (by omega)
      simp only [Nat.zero_add] at c0 c1 c2 c3 f0 f1 f2 f3
      generalize l.getD (4 * k) 0 = b0 at *
      generalize l.getD (4 * k + 1) 0 = b1 at *
      generalize l.getD (4 * k + 2) 0 = b2 at *
      generalize l.getD (4 * k + 3) 0 = b3 at *
      have hx : (cellsU L)[k]? = some (.int .u32 (U (L.getD k 0))) := by
        rw [cellsU_at, List.getD_eq_getElem?_getD, List.getElem?_eq_getElem (show k < L.length by rw [H8.out]; exact hlt)]
        rfl
      have HX := Lib.hid (show L.take (k + 1) = L.take k ++ [L.getD k 0] by
        rw [List.take_succ_eq_append_getElem (show k < L.length by rw [H8.out]; exact hlt), List.getD_eq_getElem?_getD, List.getElem?_eq_getElem (show k < L.length by rw [H8.out]; exact hlt)]
        rfl)
      generalize L.getD k 0 = x at *
      have hidx := fun W => run_index35 W L k x hlt hx
      clear hx
      have HT := Lib.hid hT
      have HL := Lib.hid hl
      clear hT hl
      obtain ⟨e3, e2, e1, e0⟩ := U_bytes x
      have E3 := Lib.hid e3
      have E2 := Lib.hid e2
      have E1 := Lib.hid e1
      have E0 := Lib.hid e0
      clear e3 e2 e1 e0
      go_wp2
      go_roundw
      case rel =>
        refine ⟨k + 1, (((l.set (4 * k) (UInt8.ofNat (x.toNat / 2 ^ (8 * 3)))).set (4 * k + 1) (UInt8.ofNat (x.toNat / 2 ^ (8 * 2)))).set (4 * k + 2) (UInt8.ofNat (x.toNat / 2 ^ (8 * 1)))).set (4 * k + 3) (UInt8.ofNat (x.toNat / 2 ^ (8 * 0))), by omega, by go_num, ?_, ?_, ?_, ?_⟩
        · simp only [List.length_set]
          exact HL.out
        · rw [set_take4 _ _ _ _ _ _ (by rw [HL.out]; omega), HX.out, List.flatMap_append, HT.out]
          simp [high]
        · have h0 := hB.set (4 * k) (by rw [HL.out]; omega) _ _ E3.out
          have h1 := h0.set (4 * k + 1) (by simp only [List.length_set]; rw [HL.out]; omega) _ _ E2.out
          have h2 := h1.set (4 * k + 2) (by simp only [List.length_set]; rw [HL.out]; omega) _ _ E1.out
          have h3 := h2.set (4 * k + 3) (by simp only [List.length_set]; rw [HL.out]; omega) _ _ E0.out
          simp only [Nat.zero_add] at h3
          exact h3
        · exact (((hbw.setCell (Nat.le_refl _) _).setCell (Nat.le_refl _) _).setCell (Nat.le_refl _) _).setCell (Nat.le_refl _) _
      case measure => simp [intOf]; omega
    · obtain rfl : k = 8 := by omega
      rw [List.take_of_length_le (by omega), List.take_of_length_le (by rw [H8.out]; omega), ← HO.out] at hT
      subst hT
      have hs := hB.seg
      rw [hl] at hs
      have hcv := run_string_seg (P := Tryd.prog) wr 29 9 5 bt Tryd.underlying9 (some ⟨w.heap.size, 0, none⟩) 32 32 l hs
      clear HO HD H8 hl hs hB hlt
      go_wp2
      go_ret
      exact ⟨rfl, hbw⟩

end Go.Proofs.YtaanaoimnecenaaDoor
