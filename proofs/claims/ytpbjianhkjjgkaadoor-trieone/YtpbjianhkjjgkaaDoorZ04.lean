/-
  Texts of one claim, joined.
-/
import Derived.Test.YtpbjianhkjjgkaaDoorZ03
import Derived.Deep.RegionLaw
import Derived.Lib.Strings
import Derived.Lib.SmallJoins
import Derived.WideShapes
namespace Go.Proofs.YtpbjianhkjjgkaaDoor
open Go.RowKit

theorem at38 : ArrT Tryd.prog 152 73 0 := ⟨agg_struct Tryd.underlying152, by kernel_rfl⟩
/-- A hasher's cells. -/
def cellsH (s : S8) : List Value := cellsU s.list ++ cellsB (List.replicate 64 0) ++ [.int .i64 0]
def S8.none : S8 := ⟨0, 0, 0, 0, 0, 0, 0, 0⟩
theorem cellsH_all (s : S8) : (cellsH s).toArray.all (·.oneCell') = true := by
  rw [Array.all_eq_true_iff_forall_mem]
  intro x hx
  have hx' : x ∈ cellsH s := by simpa using hx
  simp only [cellsH, List.mem_append] at hx'
  rcases hx' with (h | h) | h
  · exact cellsU_one _ _ h
  · exact cellsB_one _ _ h
  · obtain rfl : x = .int .i64 0 := by simpa using h
    rfl
theorem zero38 : (Tryd.prog.info? 152).map (fun i => (i.zero, i.size)) = some (some (.agg (cellsH S8.none).toArray), 73) := by kernel_rfl

set_option maxRecDepth 8000 in
set_option maxHeartbeats 4000000 in
theorem begin_any (w : World) :
    Calls Tryd.prog 104 #[] w fun e w' => e = .returned (.agg (cellsH iv).toArray) ∧ Below w.heap.size w w' := by
  have hz := (zero_of_info zero38).1
  have h73 : (cellsH S8.none).toArray.size = 73 := rfl
  have hD : ((((((((cellsH S8.none).toArray.setIfInBounds 0 (.int .u32 1779033703)).setIfInBounds 1 (.int .u32 3144134277)).setIfInBounds 2 (.int .u32 1013904242)).setIfInBounds 3 (.int .u32 2773480762)).setIfInBounds 4 (.int .u32 1359893119)).setIfInBounds 5 (.int .u32 2600822924)).setIfInBounds 6 (.int .u32 528734635)).setIfInBounds 7 (.int .u32 1541459225) = (cellsH iv).toArray := rfl
  have H73 := Lib.hid h73
  have HD := Lib.hid hD
  clear h73 hD
  have h8 : ¬ (cellsH S8.none).toArray.size < 8 := by rw [H73.out]; omega
  generalize (cellsH S8.none).toArray = C at *
  have HS : Hid ((cellsH iv).toArray.size = 73) := Lib.hid rfl
  have HO : Hid ((cellsH iv).toArray.all (·.oneCell') = true) := Lib.hid (cellsH_all iv)
  go_enter Tryd.func104, Tryd.ntmps104
  go_wp2_with (refine wpList_store_arr _ _ rfl (.tmp 0) (.tmp 2) _ _ _ at38 rfl _ _ rfl _ rfl (by rw [HD.out]; exact HS.out) (run_storeCells_vals _ _ _ _ 73 _ rfl at38.hi H73.out (by rw [HD.out]; exact HS.out) (by rw [HD.out]; exact HO.out)) ?_)
  refine bodyPost_ret (v := .agg (cellsH iv).toArray) ?_ rfl ⟨rfl, ?_⟩
  · rw [HD.out]
    exact results_arr _ Tryd.results104 _ at38 _ _ rfl _ (run_loadCellsFrom_new _ _ _ _ HS.out)
  · exact (Below.refl _ _).alloc (Nat.le_refl _) _

theorem Seg.oneAt (w : World) (x : Int) (t : TypeId) (g : Nat) (b : UInt8) (hg : g = w.heap.size) (h : x = (b.toNat : Int)) : Seg (w.alloc (.cells #[.int .u8 x] t)) (some ⟨g, 0, none⟩) 1 [b] := by
  subst hg
  exact Seg.one w x t b h
theorem len8 (n : Nat) (z : Int) (hz : z = (n : Int)) (h : n ≤ 1099511627776) :
    (#[.int .u8 (z * 8 / 72057594037927936), .int .u8 (z * 8 / 281474976710656), .int .u8 (z * 8 / 1099511627776), .int .u8 (z * 8 / 4294967296 % 256), .int .u8 (z * 8 / 16777216 % 256), .int .u8 (z * 8 / 65536 % 256), .int .u8 (z * 8 / 256 % 256), .int .u8 (z * 8 % 256)] : Array Value) = (cellsB (high (8 * n) 8)).toArray := by
  subst hz
  have b7 := high_byte (8 * n) 7
  have b6 := high_byte (8 * n) 6
  have b5 := high_byte (8 * n) 5
  have b4 := high_byte (8 * n) 4
  have b3 := high_byte (8 * n) 3
  have b2 := high_byte (8 * n) 2
  have b1 := high_byte (8 * n) 1
  have b0 := high_byte (8 * n) 0
  rw [show ((2 : Int) ^ (8 * 7)) = 72057594037927936 from by decide] at b7
  rw [show ((2 : Int) ^ (8 * 6)) = 281474976710656 from by decide] at b6
  rw [show ((2 : Int) ^ (8 * 5)) = 1099511627776 from by decide] at b5
  rw [show ((2 : Int) ^ (8 * 4)) = 4294967296 from by decide] at b4
  rw [show ((2 : Int) ^ (8 * 3)) = 16777216 from by decide] at b3
  rw [show ((2 : Int) ^ (8 * 2)) = 65536 from by decide] at b2
  rw [show ((2 : Int) ^ (8 * 1)) = 256 from by decide] at b1
  rw [show ((2 : Int) ^ (8 * 0)) = 1 from by decide] at b0
  simp only [high, cellsB, List.map_cons, List.map_nil]
  rw [← b7, ← b6, ← b5, ← b4, ← b3, ← b2, ← b1, ← b0]
  have e : (((8 * n : Nat)) : Int) = (n : Int) * 8 := by omega
  rw [e]
  have e7 : (n : Int) * 8 / 72057594037927936 % 256 = (n : Int) * 8 / 72057594037927936 := by omega
  have e6 : (n : Int) * 8 / 281474976710656 % 256 = (n : Int) * 8 / 281474976710656 := by omega
  have e5 : (n : Int) * 8 / 1099511627776 % 256 = (n : Int) * 8 / 1099511627776 := by omega
  have e0 : (n : Int) * 8 / 1 % 256 = (n : Int) * 8 % 256 := by omega
  rw [e7, e6, e5, e0]

/-- How many noughts are to come. -/
def leftOf (w : World) (g : Nat) : Nat := match w.cell? ⟨g, 72, none⟩ with
  | some (.int _ x) => (120 - x.toNat) % 64
  | _ => 0
theorem Hs.left {w : World} {g : Nat} {s : S8} {blk : List UInt8} {u : Nat} (h : Hs w g s blk u) : leftOf w g = (120 - u) % 64 := by
  unfold leftOf
  rw [h.used]
  rfl

set_option maxRecDepth 8000 in
set_option maxHeartbeats 4000000 in
theorem fill_any (g : Nat) (m : List UInt8) (s : S8) (blk : List UInt8) (u : Nat) (z : Int) (w : World) (hh : Hs w g s blk u) (hst : St m s blk u) (ht : Tab w) (hg : 0 < g) (hz : z = (m.length : Int)) (hm : m.length ≤ 1099511627776) :
    Calls Tryd.prog 106 #[.pointer (some ⟨g, 0, none⟩), .int .i64 z] w fun e w' => e = .returned (.tuple #[]) ∧ (∃ s' blk' u', Hs w' g s' blk' u' ∧ St (padded m) s' blk' u') ∧ w.grownBy w' (some g) := by
  have HG := Lib.hid hg
  have HZ := Lib.hid hz
  have hz0 : 0 ≤ z := by omega
  have hz1 : z ≤ 1099511627776 := by omega
  clear hg hz
  have hgl := hh.lt
  go_enter Tryd.func106, Tryd.ntmps106
  go_wp2_with fail
  refine (write_any g m s blk u _ 1 1 [128] _ (hh.below ((Below.refl _ _).alloc (Nat.le_refl _) _)) hst (Tab.below ht ((Below.refl _ _).alloc (Nat.le_refl _) _)) HG.out (Seg.oneAt _ _ _ _ _ rfl rfl) (by simp [maxLen]) (by rintro _ a h; injection h with h; subst h; simp only; omega)).mono ?_
  rintro e w1 ⟨rfl, ⟨s1, blk1, u1, hh1, hst1⟩, hg1⟩
  have hgr1 : w.grownBy w1 (some g) := (World.grownBy_alloc w _ _).trans hg1
  clear hg1 hh hst
  go_wp2_with fail
  go_loopw [] (fun w' => ∃ (k : Nat) (s' : S8) (blk' : List UInt8) (u' : Nat), k ≤ zc m.length ∧ Hs w' g s' blk' u' ∧ St (m ++ [128] ++ List.replicate k 0) s' blk' u' ∧ w.grownBy w' (some g)) (fun w' => leftOf w' g)
  case atStart => exact ⟨0, s1, blk1, u1, by omega, hh1, by simpa using hst1, hgr1⟩
  case round =>
    clear hh1 hst1 hgr1
    obtain ⟨k, s1, blk1, u1, hk, hh1, hst1, hgr1⟩ := hrel
    have htw : Tab wr := Tab.keep ht hgr1 (by intro e; injection e with e; have := HG.out; omega)
    have hu1 := hst1.used
    rw [List.length_append, List.length_append, List.length_replicate, List.length_singleton] at hu1
    have hlt := hst1.lt
    have cu := hh1.used
    by_cases h56 : u1 = 56
    · obtain rfl : k = zc m.length := zc_first _ _ (by rw [← hu1]; exact h56) hk
      have HU := Lib.hid hu1
      clear hu1
      have hd : ((u1 : Int) != 56) = false := by simp; omega
      have hw : IntKind.u64.wrap z = z := IntWalk.u64_in _ (by omega)
      go_wp2_with fail
      refine (write_any g _ s1 blk1 u1 _ 8 8 (high (8 * m.length) 8) _ (hh1.below ((Below.refl _ _).alloc (Nat.le_refl _) _)) hst1 (Tab.below htw ((Below.refl _ _).alloc (Nat.le_refl _) _)) HG.out (Seg.newAt _ _ _ _ _ _ rfl (len8 _ _ HZ.out hm) (high_length _ _).symm) (by simp [maxLen]) (by rintro _ a h; injection h with h; subst h; have := hh1.lt; simp only; omega)).mono ?_
      rintro e w2 ⟨rfl, ⟨s2, blk2, u2, hh2, hst2⟩, hg2⟩
      have hgr2 : w.grownBy w2 (some g) := hgr1.trans ((World.grownBy_alloc wr _ _).trans hg2)
      clear hg2
      go_wp2
      go_end0
      exact ⟨rfl, ⟨s2, blk2, u2, hh2, hst2⟩, hgr2⟩
    · have hd : ((u1 : Int) != 56) = true := by simp; omega
      have HU := Lib.hid hu1
      clear hu1
      have hgl2 : g < wr.heap.size := hh1.lt
      go_wp2_with fail
      refine (write_any g _ s1 blk1 u1 _ 1 1 [0] _ (hh1.below ((Below.refl _ _).alloc (Nat.le_refl _) _)) hst1 (Tab.below htw ((Below.refl _ _).alloc (Nat.le_refl _) _)) HG.out (Seg.oneAt _ _ _ _ _ rfl rfl) (by simp [maxLen]) (by rintro _ a h; injection h with h; subst h; simp only; omega)).mono ?_
      rintro e w2 ⟨rfl, ⟨s2, blk2, u2, hh2, hst2⟩, hg2⟩
      have hgr2 : w.grownBy w2 (some g) := hgr1.trans ((World.grownBy_alloc wr _ _).trans hg2)
      clear hg2
      have hkz : k ≠ zc m.length := by
        rintro rfl
        exact h56 (HU.out.trans (zc_spec _))
      have hst3 : St (m ++ [128] ++ List.replicate (k + 1) 0) s2 blk2 u2 := by
        rw [List.replicate_succ', ← List.append_assoc]
        exact hst2
      have hm1 : leftOf w2 g < leftOf wr g := by
        rw [hh2.left, hh1.left, hst3.used, HU.out]
        simp only [List.length_append, List.length_replicate, List.length_singleton]
        have := zc_spec m.length
        have := zc_lt m.length
        omega
      clear hst2 cu hd
      go_wp2
      go_roundw
      case rel => exact ⟨k + 1, s2, blk2, u2, by omega, hh2, hst3, hgr2⟩
      case measure => exact hm1

end Go.Proofs.YtpbjianhkjjgkaaDoor

namespace Go.Proofs.YtpbjianhkjjgkaaDoor
open Go.RowKit

theorem at51 : ArrT Tryd.prog 178 32 5 := ⟨agg_arr Tryd.underlying178, by kernel_rfl⟩

theorem ArB.seg {w : World} {g o : Nat} {l : List UInt8} (h : ArB w g o l) : Seg w (some ⟨g, o, none⟩) l.length l := by
  refine ⟨rfl, fun _ => ⟨g, o, rfl, fun j b hb => ?_⟩⟩
  have hj := (List.getElem?_eq_some_iff.1 hb).1
  rw [h.1 j hj, List.getD_eq_getElem?_getD, hb]
  rfl

theorem set_take4 (l : List UInt8) (k : Nat) (a b c d : UInt8) (h : 4 * k + 3 < l.length) : ((((l.set (4 * k) a).set (4 * k + 1) b).set (4 * k + 2) c).set (4 * k + 3) d).take (4 * (k + 1)) = l.take (4 * k) ++ [a, b, c, d] := by
  rw [show 4 * (k + 1) = 4 * k + 3 + 1 from by omega, set_take8 _ _ _ (by simp; omega), set_take8 _ _ _ (by simp; omega), set_take8 _ _ _ (by simp; omega), set_take8 _ _ _ (by omega)]
  simp
theorem U_bytes (x : BitVec 32) : U x / 16777216 % 256 = ((UInt8.ofNat (x.toNat / 2 ^ (8 * 3))).toNat : Int) ∧ U x / 65536 % 256 = ((UInt8.ofNat (x.toNat / 2 ^ (8 * 2))).toNat : Int) ∧ U x / 256 % 256 = ((UInt8.ofNat (x.toNat / 2 ^ (8 * 1))).toNat : Int) ∧ U x % 256 = ((UInt8.ofNat (x.toNat / 2 ^ (8 * 0))).toNat : Int) := by
  have b3 := high_byte x.toNat 3
  have b2 := high_byte x.toNat 2
  have b1 := high_byte x.toNat 1
  have b0 := high_byte x.toNat 0
  rw [show ((2 : Int) ^ (8 * 3)) = 16777216 from by decide] at b3
  rw [show ((2 : Int) ^ (8 * 2)) = 65536 from by decide] at b2
  rw [show ((2 : Int) ^ (8 * 1)) = 256 from by decide] at b1
  rw [show ((2 : Int) ^ (8 * 0)) = 1 from by decide, Int.ediv_one] at b0
  exact ⟨b3, b2, b1, b0⟩
theorem run_index35 (w : World) (L : List (BitVec 32)) (k : Nat) (x : BitVec 32) (hk : k < 8) (hx : (cellsU L)[k]? = some (.int .u32 (U x))) :
    (Instr.index 113 (.agg (cellsU L).toArray) (.int .i64 k)).run Tryd.prog w = .ok (.int .u32 (U x)) w := by
  obtain ⟨i, hi, hs⟩ := Option.map_eq_some_iff.1 (show (Tryd.prog.info? 110).map (·.size) = some 1 by kernel_rfl)
  simp [Instr.index, asIntOf, run_underlying Tryd.underlying113, run_underlying Tryd.underlying110, isAgg, sizeOf, typeInfo, hi, hs, Go.part, hk, hx]

set_option maxRecDepth 8000 in
set_option maxHeartbeats 4000000 in
theorem text_any (g : Nat) (s : S8) (blk : List UInt8) (u : Nat) (w : World) (hh : Hs w g s blk u) :
    Calls Tryd.prog 107 #[.pointer (some ⟨g, 0, none⟩)] w fun e w' => e = .returned (.string ⟨(out8 s).toArray⟩) ∧ Below w.heap.size w w' := by
  have HD := Lib.hid ((hh.words.alloc (.cells (cellsB (List.replicate 32 0)).toArray 178)).load (P := Tryd.prog) 8 rfl)
  have HO : Hid (out8 s = s.list.flatMap (fun x => high x.toNat 4)) := Lib.hid rfl
  have H8 : Hid (s.list.length = 8) := Lib.hid rfl
  generalize out8 s = O at *
  clear hh
  generalize s.list = L at *
  go_enter Tryd.func107, Tryd.ntmps107
  go_wp2_with (refine wpList_load_arr _ rfl (.tmp 9) _ _ _ at35 rfl _ _ rfl _ HD.out ?_)
  go_loopw [4, 5, 6, 11] (fun _ _ _ i w' => ∃ (k : Nat) (l : List UInt8), k ≤ 8 ∧ i = .int .i64 k ∧ l.length = 32 ∧ l.take (4 * k) = (L.take k).flatMap (fun x => high x.toNat 4) ∧ ArB w' w.heap.size 0 l ∧ Below w.heap.size w w') (fun _ _ _ i _ => 8 - (intOf i).toNat)
  case atStart => exact ⟨0, List.replicate 32 0, by omega, rfl, by simp, rfl, ArB.new _ _ _ _ _ rfl rfl, (Below.refl _ _).alloc (Nat.le_refl _) _⟩
  case round =>
    obtain ⟨k, l, hk, rfl, hl, hT, hB, hbw⟩ := hrel
    by_cases hlt : k < 8
    · have c0 := hB.1 (4 * k) (by omega)
      have c1 := hB.1 (4 * k + 1) (by omega)
      have c2 := hB.1 (4 * k + 2) (by omega)
      have c3 := hB.1 (4 * k + 3) (by omega)
      have f0 := hB.2 (4 * k) (by omega)
      have f1 := hB.2 (4 * k + 1) (by omega)
      have f2 := hB.2 (4 * k + 2) (by omega)
      have f3 := hB.2 (4 * k + 3) (by omega)
      simp only [Nat.zero_add] at c0 c1 c2 c3 f0 f1 f2 f3
      generalize l.getD (4 * k) 0 = b0 at *
      generalize l.getD (4 * k + 1) 0 = b1 at *
      generalize l.getD (4 * k + 2) 0 = b2 at *
      generalize l.getD (4 * k + 3) 0 = b3 at *
      have hx : (cellsU L)[k]? = some (.int .u32 (U (L.getD k 0))) := by
        rw [cellsU_at, List.getD_eq_getElem?_getD, List.getElem?_eq_getElem (show k < L.length by rw [H8.out]; exact hlt)]
        rfl
      have HX := Lib.hid (show L.take (k + 1) = L.take k ++ [L.getD k 0] by
        rw [List.take_succ_eq_append_getElem (show k < L.length by rw [H8.out]; exact hlt), List.getD_eq_getElem?_getD, List.getElem?_eq_getElem (show k < L.length by rw [H8.out]; exact hlt)]
        rfl)
      generalize L.getD k 0 = x at *
      have hidx := fun W => run_index35 W L k x hlt hx
      clear hx
      have HT := Lib.hid hT
      have HL := Lib.hid hl
      clear hT hl
      obtain ⟨e3, e2, e1, e0⟩ := U_bytes x
      have E3 := Lib.hid e3
      have E2 := Lib.hid e2
      have E1 := Lib.hid e1
      have E0 := Lib.hid e0
      clear e3 e2 e1 e0
      go_wp2
      go_roundw
      case rel =>
        refine ⟨k + 1, (((l.set (4 * k) (UInt8.ofNat (x.toNat / 2 ^ (8 * 3)))).set (4 * k + 1) (UInt8.ofNat (x.toNat / 2 ^ (8 * 2)))).set (4 * k + 2) (UInt8.ofNat (x.toNat / 2 ^ (8 * 1)))).set (4 * k + 3) (UInt8.ofNat (x.toNat / 2 ^ (8 * 0))), by omega, by go_num, ?_, ?_, ?_, ?_⟩
        · simp only [List.length_set]
          exact HL.out
        · rw [set_take4 _ _ _ _ _ _ (by rw [HL.out]; omega), HX.out, List.flatMap_append, HT.out]
          simp [high]
        · have h0 := hB.set (4 * k) (by rw [HL.out]; omega) _ _ E3.out
          have h1 := h0.set (4 * k + 1) (by simp only [List.length_set]; rw [HL.out]; omega) _ _ E2.out
          have h2 := h1.set (4 * k + 2) (by simp only [List.length_set]; rw [HL.out]; omega) _ _ E1.out
          have h3 := h2.set (4 * k + 3) (by simp only [List.length_set]; rw [HL.out]; omega) _ _ E0.out
          simp only [Nat.zero_add] at h3
          exact h3
        · exact (((hbw.setCell (Nat.le_refl _) _).setCell (Nat.le_refl _) _).setCell (Nat.le_refl _) _).setCell (Nat.le_refl _) _
      case measure => simp [intOf]; omega
    · obtain rfl : k = 8 := by omega
      rw [List.take_of_length_le (by omega), List.take_of_length_le (by rw [H8.out]; omega), ← HO.out] at hT
      subst hT
      have hs := hB.seg
      rw [hl] at hs
      have hcv := run_string_seg (P := Tryd.prog) wr 29 9 5 bt Tryd.underlying9 (some ⟨w.heap.size, 0, none⟩) 32 32 l hs
      clear HO HD H8 hl hs hB hlt
      go_wp2
      go_ret
      exact ⟨rfl, hbw⟩

end Go.Proofs.YtpbjianhkjjgkaaDoor

namespace Go.Proofs.YtpbjianhkjjgkaaDoor
open Go.RowKit

theorem Hs.new (w : World) (s : S8) (t : TypeId) : Hs (w.alloc (.cells (cellsH s).toArray t)) w.heap.size s (List.replicate 64 0) 0 := by
  have hc : ∀ j v, (cellsH s)[j]? = some v → (w.alloc (.cells (cellsH s).toArray t)).cell? ⟨w.heap.size, j, none⟩ = some v := by
    intro j v hv
    rw [cell_of_row _ w.heap.size _ _ _ (0, 0) (heap_alloc_new w _)]
    simpa using hv
  refine ⟨⟨fun j hj => ?_, fun j hj => by simp⟩, ⟨fun j hj => ?_, fun j hj => by simp⟩, by simp, ?_, by simp⟩
  · refine hc _ _ ?_
    rw [Nat.zero_add, cellsH, List.append_assoc, List.getElem?_append_left (by rw [cellsU_length]; exact hj), cellsU_at, List.getElem?_eq_getElem hj, List.getD_eq_getElem?_getD, List.getElem?_eq_getElem hj]
    rfl
  · refine hc _ _ ?_
    have h8 : (cellsU s.list).length = 8 := rfl
    rw [cellsH, List.append_assoc, List.getElem?_append_right (by rw [h8]; omega), h8, Nat.add_sub_cancel_left, List.getElem?_append_left (by rw [cellsB_length]; exact hj), cellsB_at, List.getElem?_eq_getElem hj, List.getD_eq_getElem?_getD, List.getElem?_eq_getElem hj]
    rfl
  · exact hc _ _ rfl
theorem St.start : St [] iv (List.replicate 64 0) 0 := ⟨rfl, rfl, by simp, rfl⟩

set_option maxRecDepth 8000 in
set_option maxHeartbeats 4000000 in
theorem sum_any (A : Option Addr) (n c : Nat) (l : List UInt8) (w : World) (ha : Seg w A n l) (hn : n ≤ 1099511627776) (ht : Tab w) :
    Calls Tryd.prog 82 #[.slice A n c] w fun e w' => e = .returned (.string ⟨(sha l).toArray⟩) ∧ Below w.heap.size w w' := by
  go_enter Tryd.func82, Tryd.ntmps82
  go_wp2_with fail
  refine (begin_any _).mono ?_
  rintro e w1 ⟨rfl, hb1⟩
  have HS : Hid ((cellsH iv).toArray.size = 73) := Lib.hid rfl
  have hz := (zero_of_info zero38).1
  have H73 : Hid ((cellsH S8.none).toArray.size = 73) := Lib.hid rfl
  go_wp2_with (refine wpList_store_arr _ _ rfl (.tmp 3) (.tmp 4) _ _ _ at38 rfl _ _ rfl _ rfl HS.out (run_storeCells_vals _ _ _ _ 73 _ rfl at38.hi H73.out HS.out (cellsH_all iv)) ?_)
  have hb2 : Below w.heap.size w (w1.alloc (.cells (cellsH iv).toArray 152)) := hb1.alloc hb1.size _
  have hh := Hs.new w1 iv 152
  have hs2 := ha.below hb2
  have ht2 : Tab (w1.alloc (.cells (cellsH iv).toArray 152)) := Tab.below ht hb2
  have hw0 := Tab.lt ht
  have hw1 := hb1.size
  have hw2 : w1.heap.size < (w1.alloc (.cells (cellsH iv).toArray 152)).heap.size := by simp
  generalize w1.alloc (.cells (cellsH iv).toArray 152) = W at *
  generalize w1.heap.size = g at *
  generalize List.replicate 64 (0 : UInt8) = blk0 at *
  have hst : St [] iv blk0 0 := ⟨rfl, rfl, hh.len, rfl⟩
  refine (write_any g [] iv blk0 0 A n c l W hh hst ht2 (by omega) hs2 (by simp only [maxLen]; omega) ?_).mono ?_
  · rintro h0 a rfl
    obtain ⟨g', o', e, hc⟩ := ha.2 h0
    injection e with e
    subst e
    have := ha.at_ h0
    obtain ⟨g2, o2, e2, hc2⟩ := this
    injection e2 with e2
    injection e2 with e3 e4
    have := World.block_lt_of_cell? w _ hc2
    simp only at this ⊢
    omega
  rintro e w3 ⟨rfl, ⟨s3, blk3, u3, hh3, hst3⟩, hg3⟩
  have hb3 : Below w.heap.size w w3 := hb2.grown hg3 (by omega) (by intro k hk; injection hk with hk; omega)
  clear hh hst hg3 hb2 hs2 ht2 hz
  rw [List.nil_append] at hst3
  have hlen := ha.1
  go_wp2_with fail
  refine (fill_any g l s3 blk3 u3 _ w3 hh3 hst3 (Tab.below ht hb3) (by omega) (by omega) (by omega)).mono ?_
  rintro e w4 ⟨rfl, ⟨s4, blk4, u4, hh4, hst4⟩, hg4⟩
  have hb4 : Below w.heap.size w w4 := hb3.grown hg4 (by have := hb3.size; omega) (by intro k hk; injection hk with hk; omega)
  have HW := Lib.hid hst4.words
  clear hh3 hst3 hg4 hb3 hst4
  go_wp2_with fail
  refine (text_any g s4 blk4 u4 w4 hh4).mono ?_
  rintro e w5 ⟨rfl, hb5⟩
  have hb6 : Below w.heap.size w w5 := Below.next' hb4 hb5 hb4.size
  clear hb5 hb4
  go_wp2
  go_ret
  exact ⟨by rw [HW.out]; rfl, hb6⟩

end Go.Proofs.YtpbjianhkjjgkaaDoor

namespace Go.Proofs.YtpbjianhkjjgkaaDoor
open Go.RowKit

def digits : List UInt8 := [48, 49, 50, 51, 52, 53, 54, 55, 56, 57, 97, 98, 99, 100, 101, 102]
def dig (n : Nat) : UInt8 := digits.getD n 0
def hex1 (b : UInt8) : List UInt8 := [dig (b.toNat / 16), dig (b.toNat % 16)]
def hexB (l : List UInt8) : List UInt8 := l.flatMap hex1

theorem hexB_len (l : List UInt8) : (hexB l).length = 2 * l.length := by
  induction l with
  | nil => rfl
  | cons b l ih =>
    show (hex1 b ++ hexB l).length = _
    rw [List.length_append, ih, List.length_cons]
    show 2 + _ = _
    omega
theorem hexB_snoc (l : List UInt8) (b : UInt8) : hexB (l ++ [b]) = hexB l ++ hex1 b := by
  unfold hexB
  rw [List.flatMap_append, List.flatMap_cons, List.flatMap_nil, List.append_nil]
theorem run_digit (W : World) (x : Nat) (hx : x < 16) : (Instr.index 9 (.string ⟨#[48, 49, 50, 51, 52, 53, 54, 55, 56, 57, 97, 98, 99, 100, 101, 102]⟩) (.int .u8 (x : Int))).run Tryd.prog W = .ok (.int .u8 ((dig x).toNat : Int)) W := by
  match x, hx with
  | 0, _ | 1, _ | 2, _ | 3, _ | 4, _ | 5, _ | 6, _ | 7, _ | 8, _ | 9, _ | 10, _ | 11, _ | 12, _ | 13, _ | 14, _ | 15, _ => simp [Instr.index, asIntOf, run_underlying Tryd.underlying9]; rfl
  | n + 16, h => exact absurd h (by omega)

theorem run_at (W : World) (s : ByteArray) (k : Nat) (b : UInt8) (h : s.data.toList[k]? = some b) : (Instr.index 9 (.string s) (.int .i64 (k : Int))).run Tryd.prog W = .ok (.int .u8 (b.toNat : Int)) W := by
  have h' : s[k]? = some b := by
    have hk : k < s.size := by
      have := (List.getElem?_eq_some_iff.1 h).1
      simpa using this
    rw [getElem?_pos s k hk, ← h, List.getElem?_eq_getElem (by simpa using hk)]
    rfl
  simp [Instr.index, asIntOf, run_underlying Tryd.underlying9, h']

end Go.Proofs.YtpbjianhkjjgkaaDoor

namespace Go.Proofs.YtpbjianhkjjgkaaDoor
open Go.RowKit

theorem abc_bytes : (ByteArray.mk (sha [97, 98, 99]).toArray).size = 32 ∧ (ByteArray.mk (sha [97, 98, 99]).toArray).extract 0 4 = ⟨#[186, 120, 22, 191]⟩ := by
  refine ⟨?_, ?_⟩
  · show (sha [97, 98, 99]).toArray.size = 32
    rw [List.size_toArray, sha_length]
  · apply Go.WideShapes.bytes_inj
    rw [Lib.extract_data]
    have := sha_abc
    simp
    exact this
theorem Seg.mark (w : World) (l : List UInt8) (t : TypeId) (fr : Nat × Nat) (cs : Array Value) (g n : Nat) (hg : g = w.heap.size) (hcs : cs = (cellsB l).toArray) (hn : n = l.length) : Seg (w.alloc (.cells cs t fr)) (some ⟨g, 0, none⟩) n l := by
  subst hg hcs hn
  refine ⟨rfl, fun _ => ⟨_, _, rfl, fun j b hb => ?_⟩⟩
  rw [World.cell?_alloc_mark]
  simp [cellsB_at, hb]
theorem hex_abc : (hexB [186, 15]).toArray = #[98, 97, 48, 102] := by decide

end Go.Proofs.YtpbjianhkjjgkaaDoor

namespace Go.Proofs.YtpbjianhkjjgkaaDoor
open Go.RowKit

theorem i64_and1 (n : Nat) (h : n < 256) : bits .and .i64 (n : Int) 1 = ((n % 2 : Nat) : Int) := by
  show IntKind.i64.wrap (((BitVec.ofInt 64 (n : Int) &&& BitVec.ofInt 64 1).toNat : Nat) : Int) = _
  rw [BitVec.toNat_and, ofInt_u64 n (by omega), show (BitVec.ofInt 64 1).toNat = 1 from by decide, nat_mask1]
  exact IntWalk.i64_in _ (by omega)
/-- A text's i-th bit. -/
def bitF (s : ByteArray) (i : Int) : Nat := if i < 0 then 0 else (s.data.toList.getD (i.toNat / 8) 0).toNat / 2 ^ (7 - i.toNat % 8) % 2

set_option maxRecDepth 8000 in
set_option maxHeartbeats 4000000 in
theorem bit_any (s : ByteArray) (i : Int) (w : World) (hs : s.size ≤ 1000000) (hi0 : -9223372036854775808 ≤ i) (hi1 : i ≤ 9223372036854775807) :
    Calls Tryd.prog 92 #[.string s, .int .i64 i] w fun e w' => e = .returned (.int .i64 (bitF s i : Int)) ∧ w = w' := by
  have hsl : s.data.toList.length = s.size := by simp
  by_cases hneg : i < 0
  · have HB : Hid (bitF s i = 0) := Lib.hid (by unfold bitF; rw [if_pos hneg])
    have t1 : decide (i < 0) = true := decide_eq_true hneg
    clear hsl hi0 hi1
    go_enter Tryd.func92, Tryd.ntmps92
    go_wp2
    go_ret
    rw [HB.out]
    exact ⟨rfl, rfl⟩
  · obtain ⟨m, rfl⟩ := Int.eq_ofNat_of_zero_le (show 0 ≤ i by omega)
    have HB : Hid (bitF s (m : Int) = (s.data.toList.getD (m / 8) 0).toNat / 2 ^ (7 - m % 8) % 2) := Lib.hid (by unfold bitF; rw [if_neg hneg]; rfl)
    have t1 : decide ((m : Int) < 0) = false := decide_eq_false (by omega)
    obtain ⟨q, hq0⟩ : ∃ q, m / 8 = q := ⟨_, rfl⟩
    obtain ⟨r, hr0⟩ : ∃ r, m % 8 = r := ⟨_, rfl⟩
    have hr8 : r < 8 := by omega
    have hq : (m : Int) / 8 = (q : Int) := by omega
    have hr : (m : Int) % 8 = (r : Int) := by omega
    have hw : wrap64 (q : Int) = (q : Int) := IntWalk.wrap64_in _ (by omega)
    by_cases hin : q < s.size
    · have t2 : decide ((s.size : Int) ≤ (q : Int)) = false := decide_eq_false (by omega)
      have hb : s.data.toList.getD q 0 = s[q] := by
        rw [List.getD_eq_getElem?_getD, List.getElem?_eq_getElem (by omega)]
        rfl
      rw [hq0, hr0, hb] at HB
      clear hb hq0 hr0 hsl hi0 hi1 hneg
      go_enter Tryd.func92, Tryd.ntmps92
      go_wp2
      go_ret
      rw [HB.out]
      have hlt : s[q].toNat / 2 ^ (7 - r) < 256 := Nat.lt_of_le_of_lt (Nat.div_le_self _ _) (byte_lt _)
      have e1 : ((s[q].toNat : Nat) : Int) / 2 ^ (7 - r) = ((s[q].toNat / 2 ^ (7 - r) : Nat) : Int) := by
        rw [Int.natCast_ediv, Int.natCast_pow]
        rfl
      refine ⟨?_, rfl⟩
      show Ending.returned (Value.int .i64 (bits .and .i64 (wrap64 (((s[q].toNat : Nat) : Int) / 2 ^ (7 - r))) 1)) = _
      rw [e1]
      generalize s[q].toNat / 2 ^ (7 - r) = y at *
      rw [IntWalk.wrap64_in _ (by omega), i64_and1 _ hlt]
    · have t2 : decide ((s.size : Int) ≤ (q : Int)) = true := decide_eq_true (by omega)
      have hz : (s.data.toList.getD q 0) = 0 := by
        rw [List.getD_eq_getElem?_getD, List.getElem?_eq_none (by omega)]
        rfl
      rw [hq0, hr0, hz] at HB
      have H0 : Hid (bitF s (m : Int) = 0) := Lib.hid (by rw [HB.out]; simp)
      clear hz hq0 hr0 hsl HB hi0 hi1
      go_enter Tryd.func92, Tryd.ntmps92
      go_wp2
      go_ret
      rw [H0.out]
      exact ⟨rfl, rfl⟩

set_option maxRecDepth 8000 in
set_option maxHeartbeats 4000000 in
theorem rbit_any (s : ByteArray) (i : Int) (w : World) (hs : s.size ≤ 1000000) (hi0 : -9223372036854775808 ≤ i) (hi1 : i ≤ 9223372036854775807) :
    Calls Tryd.prog 48 #[.string s, .int .i64 i] w fun e w' => e = .returned (.int .i64 (bitF s i : Int)) ∧ w = w' := by
  have hsl : s.data.toList.length = s.size := by simp
  by_cases hneg : i < 0
  · have HB : Hid (bitF s i = 0) := Lib.hid (by unfold bitF; rw [if_pos hneg])
    have t1 : decide (i < 0) = true := decide_eq_true hneg
    clear hsl hi0 hi1
    go_enter Tryd.func48, Tryd.ntmps48
    go_wp2
    go_ret
    rw [HB.out]
    exact ⟨rfl, rfl⟩
  · obtain ⟨m, rfl⟩ := Int.eq_ofNat_of_zero_le (show 0 ≤ i by omega)
    have HB : Hid (bitF s (m : Int) = (s.data.toList.getD (m / 8) 0).toNat / 2 ^ (7 - m % 8) % 2) := Lib.hid (by unfold bitF; rw [if_neg hneg]; rfl)
    have t1 : decide ((m : Int) < 0) = false := decide_eq_false (by omega)
    obtain ⟨q, hq0⟩ : ∃ q, m / 8 = q := ⟨_, rfl⟩
    obtain ⟨r, hr0⟩ : ∃ r, m % 8 = r := ⟨_, rfl⟩
    have hr8 : r < 8 := by omega
    have hq : (m : Int) / 8 = (q : Int) := by omega
    have hr : (m : Int) % 8 = (r : Int) := by omega
    have hw : wrap64 (q : Int) = (q : Int) := IntWalk.wrap64_in _ (by omega)
    by_cases hin : q < s.size
    · have t2 : decide (8 * (s.size : Int) ≤ (m : Int)) = false := decide_eq_false (by omega)
      have hb : s.data.toList.getD q 0 = s[q] := by
        rw [List.getD_eq_getElem?_getD, List.getElem?_eq_getElem (by omega)]
        rfl
      rw [hq0, hr0, hb] at HB
      clear hb hq0 hr0 hsl hi0 hi1 hneg
      go_enter Tryd.func48, Tryd.ntmps48
      go_wp2
      go_ret
      rw [HB.out]
      have hlt : s[q].toNat / 2 ^ (7 - r) < 256 := Nat.lt_of_le_of_lt (Nat.div_le_self _ _) (byte_lt _)
      have e1 : ((s[q].toNat : Nat) : Int) / 2 ^ (7 - r) = ((s[q].toNat / 2 ^ (7 - r) : Nat) : Int) := by
        rw [Int.natCast_ediv, Int.natCast_pow]
        rfl
      refine ⟨?_, rfl⟩
      show Ending.returned (Value.int .i64 ((wrap64 ((s[q].toNat : Nat) : Int) / 2 ^ (7 - r)).tmod 2)) = _
      rw [IntWalk.wrap64_in _ (by have := byte_lt s[q]; omega), e1]
      generalize s[q].toNat / 2 ^ (7 - r) = y at *
      rw [Int.tmod_eq_emod_of_nonneg (by omega)]
      congr 2
    · have t2 : decide (8 * (s.size : Int) ≤ (m : Int)) = true := decide_eq_true (by omega)
      have hz : (s.data.toList.getD q 0) = 0 := by
        rw [List.getD_eq_getElem?_getD, List.getElem?_eq_none (by omega)]
        rfl
      rw [hq0, hr0, hz] at HB
      have H0 : Hid (bitF s (m : Int) = 0) := Lib.hid (by rw [HB.out]; simp)
      clear hz hq0 hr0 hsl HB hi0 hi1
      go_enter Tryd.func48, Tryd.ntmps48
      go_wp2
      go_ret
      rw [H0.out]
      exact ⟨rfl, rfl⟩

theorem dig_extract (q : Nat) (h : q < 16) : (⟨#[48, 49, 50, 51, 52, 53, 54, 55, 56, 57, 97, 98, 99, 100, 101, 102]⟩ : ByteArray).extract q (q + 1) = ⟨#[dig q]⟩ := by
  match q, h with
  | 0, _ | 1, _ | 2, _ | 3, _ | 4, _ | 5, _ | 6, _ | 7, _ | 8, _ | 9, _ | 10, _ | 11, _ | 12, _ | 13, _ | 14, _ | 15, _ => decide
  | n + 16, h => exact absurd h (by omega)

end Go.Proofs.YtpbjianhkjjgkaaDoor
