/-
  The walks of begin, fill, text and Sum.
-/
import Derived.Test.YtaanaoimnecenaaDoorWA5
namespace Go.Proofs.YtaanaoimnecenaaDoor
open Go.RowKit

theorem at38 : ArrT Tryd.prog 132 73 0 := ⟨agg_struct Tryd.underlying132, by kernel_rfl⟩
/-- A hasher's cells. -/
def cellsH (s : S8) : List Value := cellsU s.list ++ cellsB (List.replicate 64 0) ++ [.int .i64 0]
def S8.none : S8 := ⟨0, 0, 0, 0, 0, 0, 0, 0⟩
theorem cellsH_all (s : S8) : (cellsH s).toArray.all (·.oneCell') = true := by
  rw [Array.all_eq_true_iff_forall_mem]
  intro x hx
  have hx' : x ∈ cellsH s := by simpa using hx
  simp only [cellsH, List.mem_append] at hx'
  rcases hx' with (h | h) | h
  · exact cellsU_one _ _ h
  · exact cellsB_one _ _ h
  · obtain rfl : x = .int .i64 0 := by simpa using h
    rfl
theorem zero38 : (Tryd.prog.info? 132).map (fun i => (i.zero, i.size)) = some (some (.agg (cellsH S8.none).toArray), 73) := by kernel_rfl

set_option maxRecDepth 8000 in
set_option maxHeartbeats 4000000 in
theorem begin_any (w : World) :
    Calls Tryd.prog 90 #[] w fun e w' => e = .returned (.agg (cellsH iv).toArray) ∧ Below w.heap.size w w' := by
  have hz := (zero_of_info zero38).1
  have h73 : (cellsH S8.none).toArray.size = 73 := rfl
  have hD : ((((((((cellsH S8.none).toArray.setIfInBounds 0 (.int .u32 1779033703)).setIfInBounds 1 (.int .u32 3144134277)).setIfInBounds 2 (.int .u32 1013904242)).setIfInBounds 3 (.int .u32 2773480762)).setIfInBounds 4 (.int .u32 1359893119)).setIfInBounds 5 (.int .u32 2600822924)).setIfInBounds 6 (.int .u32 528734635)).setIfInBounds 7 (.int .u32 1541459225) = (cellsH iv).toArray := rfl
  have H73 := Lib.hid h73
  have HD := Lib.hid hD
  clear h73 hD
  have h8 : ¬ (cellsH S8.none).toArray.size < 8 := by rw [H73.out]; omega
  generalize (cellsH S8.none).toArray = C at *
  have HS : Hid ((cellsH iv).toArray.size = 73) := Lib.hid rfl
  have HO : Hid ((cellsH iv).toArray.all (·.oneCell') = true) := Lib.hid (cellsH_all iv)
  go_enter Tryd.func90, Tryd.ntmps90
  go_wp2_with (refine wpList_store_arr _ _ rfl (.tmp 0) (.tmp 2) _ _ _ at38 rfl _ _ rfl _ rfl (by rw [HD.out]; exact HS.out) (run_storeCells_vals _ _ _ _ 73 _ rfl at38.hi H73.out (by rw [HD.out]; exact HS.out) (by rw [HD.out]; exact HO.out)) ?_)
  refine bodyPost_ret (v := .agg (cellsH iv).toArray) ?_ rfl ⟨rfl, ?_⟩
  · rw [HD.out]
    exact results_arr _ Tryd.results90 _ at38 _ _ rfl _ (run_loadCellsFrom_new _ _ _ _ HS.out)
  · exact (Below.refl _ _).alloc (Nat.le_refl _) _

theorem Seg.oneAt (w : World) (x : Int) (t : TypeId) (g : Nat) (b : UInt8) (hg : g = w.heap.size) (h : x = (b.toNat : Int)) : Seg (w.alloc (.cells #[.int .u8 x] t)) (some ⟨g, 0, none⟩) 1 [b] := by
  subst hg
  exact Seg.one w x t b h
theorem len8 (n : Nat) (z : Int) (hz : z = (n : Int)) (h : n ≤ 1099511627776) :
    (#[.int .u8 (z * 8 / 72057594037927936), .int .u8 (z * 8 / 281474976710656), .int .u8 (z * 8 / 1099511627776), .int .u8 (z * 8 / 4294967296 % 256), .int .u8 (z * 8 / 16777216 % 256), .int .u8 (z * 8 / 65536 % 256), .int .u8 (z * 8 / 256 % 256), .int .u8 (z * 8 % 256)] : Array Value) = (cellsB (high (8 * n) 8)).toArray := by
  subst hz
  have b7 := high_byte (8 * n) 7
  have b6 := high_byte (8 * n) 6
  have b5 := high_byte (8 * n) 5
  have b4 := high_byte (8 * n) 4
  have b3 := high_byte (8 * n) 3
  have b2 := high_byte (8 * n) 2
  have b1 := high_byte (8 * n) 1
  have b0 := high_byte (8 * n) 0
  rw [show ((2 : Int) ^ (8 * 7)) = 72057594037927936 from by decide] at b7
  rw [show ((2 : Int) ^ (8 * 6)) = 281474976710656 from by decide] at b6
  rw [show ((2 : Int) ^ (8 * 5)) = 1099511627776 from by decide] at b5
  rw [show ((2 : Int) ^ (8 * 4)) = 4294967296 from by decide] at b4
  rw [show ((2 : Int) ^ (8 * 3)) = 16777216 from by decide] at b3
  rw [show ((2 : Int) ^ (8 * 2)) = 65536 from by decide] at b2
  rw [show ((2 : Int) ^ (8 * 1)) = 256 from by decide] at b1
  rw [show ((2 : Int) ^ (8 * 0)) = 1 from by decide] at b0
  simp only [high, cellsB, List.map_cons, List.map_nil]
  rw [← b7, ← b6, ← b5, ← b4, ← b3, ← b2, ← b1, ← b0]
  have e : (((8 * n : Nat)) : Int) = (n : Int) * 8 := by omega
  rw [e]
  have e7 : (n : Int) * 8 / 72057594037927936 % 256 = (n : Int) * 8 / 72057594037927936 := by omega
  have e6 : (n : Int) * 8 / 281474976710656 % 256 = (n : Int) * 8 / 281474976710656 := by omega
  have e5 : (n : Int) * 8 / 1099511627776 % 256 = (n : Int) * 8 / 1099511627776 := by omega
  have e0 : (n : Int) * 8 / 1 % 256 = (n : Int) * 8 % 256 := by omega
  rw [e7, e6, e5, e0]

/-- How many noughts are to come. -/
def leftOf (w : World) (g : Nat) : Nat := match w.cell? ⟨g, 72, none⟩ with
  | some (.int _ x) => (120 - x.toNat) % 64
  | _ => 0
theorem Hs.left {w : World} {g : Nat} {s : S8} {blk : List UInt8} {u : Nat} (h : Hs w g s blk u) : leftOf w g = (120 - u) % 64 := by
  unfold leftOf
  rw [h.used]
  rfl

set_option maxRecDepth 8000 in
set_option maxHeartbeats 4000000 in
theorem fill_any (g : Nat) (m : List UInt8) (s : S8) (blk : List UInt8) (u : Nat) (z : Int) (w : World) (hh : Hs w g s blk u) (hst : St m s blk u) (ht : Tab w) (hg : 0 < g) (hz : z = (m.length : Int)) (hm : m.length ≤ 1099511627776) :
    Calls Tryd.prog 92 #[.pointer (some ⟨g, 0, none⟩), .int .i64 z] w fun e w' => e = .returned (.tuple #[]) ∧ (∃ s' blk' u', Hs w' g s' blk' u' ∧ St (padded m) s' blk' u') ∧ w.grownBy w' (some g) := by
  have HG := Lib.hid hg
  have HZ := Lib.hid hz
  have hz0 : 0 ≤ z := by omega
  have hz1 : z ≤ 1099511627776 := by omega
  clear hg hz
  have hgl := hh.lt
  go_enter Tryd.func92, Tryd.ntmps92
  go_wp2_with fail
  refine (write_any g m s blk u _ 1 1 [128] _ (hh.below ((Below.refl _ _).alloc (Nat.le_refl _) _)) hst (Tab.below ht ((Below.refl _ _).alloc (Nat.le_refl _) _)) HG.out (Seg.oneAt _ _ _ _ _ rfl rfl) (by simp [maxLen]) (by rintro _ a h; injection h with h; subst h; simp only; omega)).mono ?_
  rintro e w1 ⟨rfl, ⟨s1, blk1, u1, hh1, hst1⟩, hg1⟩
  have hgr1 : w.grownBy w1 (some g) := (World.grownBy_alloc w _ _).trans hg1
  clear hg1 hh hst
  go_wp2_with fail
  go_loopw [] (fun w' => ∃ (k : Nat) (s' : S8) (blk' : List UInt8) (u' : Nat), k ≤ zc m.length ∧ Hs w' g s' blk' u' ∧ St (m ++ [128] ++ List.replicate k 0) s' blk' u' ∧ w.grownBy w' (some g)) (fun w' => leftOf w' g)
  case atStart => exact ⟨0, s1, blk1, u1, by omega, hh1, by simpa using hst1, hgr1⟩
  case round =>
    clear hh1 hst1 hgr1
    obtain ⟨k, s1, blk1, u1, hk, hh1, hst1, hgr1⟩ := hrel
    have htw : Tab wr := Tab.keep ht hgr1 (by intro e; injection e with e; have := HG.out; omega)
    have hu1 := hst1.used
    rw [List.length_append, List.length_append, List.length_replicate, List.length_singleton] at hu1
    have hlt := hst1.lt
    have cu := hh1.used
    by_cases h56 : u1 = 56
    · obtain rfl : k = zc m.length := zc_first _ _ (by rw [← hu1]; exact h56) hk
      have HU := Lib.hid hu1
      clear hu1
      have hd : ((u1 : Int) != 56) = false := by simp; omega
      have hw : IntKind.u64.wrap z = z := IntWalk.u64_in _ (by omega)
      go_wp2_with fail
      refine (write_any g _ s1 blk1 u1 _ 8 8 (high (8 * m.length) 8) _ (hh1.below ((Below.refl _ _).alloc (Nat.le_refl _) _)) hst1 (Tab.below htw ((Below.refl _ _).alloc (Nat.le_refl _) _)) HG.out (Seg.newAt _ _ _ _ _ _ rfl (len8 _ _ HZ.out hm) (high_length _ _).symm) (by simp [maxLen]) (by rintro _ a h; injection h with h; subst h; have := hh1.lt; simp only; omega)).mono ?_
      rintro e w2 ⟨rfl, ⟨s2, blk2, u2, hh2, hst2⟩, hg2⟩
      have hgr2 : w.grownBy w2 (some g) := hgr1.trans ((World.grownBy_alloc wr _ _).trans hg2)
      clear hg2
      go_wp2
      go_end0
      exact ⟨rfl, ⟨s2, blk2, u2, hh2, hst2⟩, hgr2⟩
    · have hd : ((u1 : Int) != 56) = true := by simp; omega
      have HU := Lib.hid hu1
      clear hu1
      have hgl2 : g < wr.heap.size := hh1.lt
      go_wp2_with fail
      refine (write_any g _ s1 blk1 u1 _ 1 1 [0] _ (hh1.below ((Below.refl _ _).alloc (Nat.le_refl _) _)) hst1 (Tab.below htw ((Below.refl _ _).alloc (Nat.le_refl _) _)) HG.out (Seg.oneAt _ _ _ _ _ rfl rfl) (by simp [maxLen]) (by rintro _ a h; injection h with h; subst h; simp only; omega)).mono ?_
      rintro e w2 ⟨rfl, ⟨s2, blk2, u2, hh2, hst2⟩, hg2⟩
      have hgr2 : w.grownBy w2 (some g) := hgr1.trans ((World.grownBy_alloc wr _ _).trans hg2)
      clear hg2
      have hkz : k ≠ zc m.length := by
        rintro rfl
        exact h56 (HU.out.trans (zc_spec _))
      have hst3 : St (m ++ [128] ++ List.replicate (k + 1) 0) s2 blk2 u2 := by
        rw [List.replicate_succ', ← List.append_assoc]
        exact hst2
      have hm1 : leftOf w2 g < leftOf wr g := by
        rw [hh2.left, hh1.left, hst3.used, HU.out]
        simp only [List.length_append, List.length_replicate, List.length_singleton]
        have := zc_spec m.length
        have := zc_lt m.length
        omega
      clear hst2 cu hd
      go_wp2
      go_roundw
      case rel => exact ⟨k + 1, s2, blk2, u2, by omega, hh2, hst3, hgr2⟩
      case measure => exact hm1

end Go.Proofs.YtaanaoimnecenaaDoor
