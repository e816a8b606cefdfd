/-
  The walk of the program's Sum.
-/
import Derived.Test.YtaanaoimnecenaaDoorWA7
namespace Go.Proofs.YtaanaoimnecenaaDoor
open Go.RowKit

theorem Hs.new (w : World) (s : S8) (t : TypeId) : Hs (w.alloc (.cells (cellsH s).toArray t)) w.heap.size s (List.replicate 64 0) 0 := by
  have hc : ∀ j v, (cellsH s)[j]? = some v → (w.alloc (.cells (cellsH s).toArray t)).cell? ⟨w.heap.size, j, none⟩ = some v := by
    intro j v hv
    rw [cell_of_row _ w.heap.size _ _ _ (0, 0) (heap_alloc_new w _)]
    simpa using hv
  refine ⟨⟨fun j hj => ?_, fun j hj => by simp⟩, ⟨fun j hj => ?_, fun j hj => by simp⟩, by simp, ?_, by simp⟩
  · refine hc _ _ ?_
    rw [Nat.zero_add, cellsH, List.append_assoc, List.getElem?_append_left (by rw [cellsU_length]; exact hj), cellsU_at, List.getElem?_eq_getElem hj, List.getD_eq_getElem?_getD, List.getElem?_eq_getElem hj]
    rfl
  · refine hc _ _ ?_
    have h8 : (cellsU s.list).length = 8 := rfl
    rw [cellsH, List.append_assoc, List.getElem?_append_right (by rw [h8]; omega), h8, Nat.add_sub_cancel_left, List.getElem?_append_left (by rw [cellsB_length]; exact hj), cellsB_at, List.getElem?_eq_getElem hj, List.getD_eq_getElem?_getD, List.getElem?_eq_getElem hj]
    rfl
  · exact hc _ _ rfl
theorem St.start : St [] iv (List.replicate 64 0) 0 := ⟨rfl, rfl, by simp, rfl⟩

set_option maxRecDepth 8000 in
set_option maxHeartbeats 4000000 in
theorem sum_any (A : Option Addr) (n c : Nat) (l : List UInt8) (w : World) (ha : Seg w A n l) (hn : n ≤ 1099511627776) (ht : Tab w) :
    Calls Tryd.prog 73 #[.slice A n c] w fun e w' => e = .returned (.string ⟨(sha l).toArray⟩) ∧ Below w.heap.size w w' := by
  go_enter Tryd.func73, Tryd.ntmps73
  go_wp2_with fail
  refine (begin_any _).mono ?_
  rintro e w1 ⟨rfl, hb1⟩
  have HS : Hid ((cellsH iv).toArray.size = 73) := Lib.hid rfl
  have hz := (zero_of_info zero38).1
  have H73 : Hid ((cellsH S8.none).toArray.size = 73) := Lib.hid rfl
  go_wp2_with (refine wpList_store_arr _ _ rfl (.tmp 3) (.tmp 4) _ _ _ at38 rfl _ _ rfl _ rfl HS.out (run_storeCells_vals _ _ _ _ 73 _ rfl at38.hi H73.out HS.out (cellsH_all iv)) ?_)
  have hb2 : Below w.heap.size w (w1.alloc (.cells (cellsH iv).toArray 132)) := hb1.alloc hb1.size _
  have hh := Hs.new w1 iv 132
  have hs2 := ha.below hb2
  have ht2 : Tab (w1.alloc (.cells (cellsH iv).toArray 132)) := Tab.below ht hb2
  have hw0 := Tab.lt ht
  have hw1 := hb1.size
  have hw2 : w1.heap.size < (w1.alloc (.cells (cellsH iv).toArray 132)).heap.size := by simp
  generalize w1.alloc (.cells (cellsH iv).toArray 132) = W at *
  generalize w1.heap.size = g at *
  generalize List.replicate 64 (0 : UInt8) = blk0 at *
  have hst : St [] iv blk0 0 := ⟨rfl, rfl, hh.len, rfl⟩
  refine (write_any g [] iv blk0 0 A n c l W hh hst ht2 (by omega) hs2 (by simp only [maxLen]; omega) ?_).mono ?_
  · rintro h0 a rfl
    obtain ⟨g', o', e, hc⟩ := ha.2 h0
    injection e with e
    subst e
    have := ha.at_ h0
    obtain ⟨g2, o2, e2, hc2⟩ := this
    injection e2 with e2
    injection e2 with e3 e4
    have := World.block_lt_of_cell? w _ hc2
    simp only at this ⊢
    omega
  rintro e w3 ⟨rfl, ⟨s3, blk3, u3, hh3, hst3⟩, hg3⟩
  have hb3 : Below w.heap.size w w3 := hb2.grown hg3 (by omega) (by intro k hk; injection hk with hk; omega)
  clear hh hst hg3 hb2 hs2 ht2 hz
  rw [List.nil_append] at hst3
  have hlen := ha.1
  go_wp2_with fail
  refine (fill_any g l s3 blk3 u3 _ w3 hh3 hst3 (Tab.below ht hb3) (by omega) (by omega) (by omega)).mono ?_
  rintro e w4 ⟨rfl, ⟨s4, blk4, u4, hh4, hst4⟩, hg4⟩
  have hb4 : Below w.heap.size w w4 := hb3.grown hg4 (by have := hb3.size; omega) (by intro k hk; injection hk with hk; omega)
  have HW := Lib.hid hst4.words
  clear hh3 hst3 hg4 hb3 hst4
  go_wp2_with fail
  refine (text_any g s4 blk4 u4 w4 hh4).mono ?_
  rintro e w5 ⟨rfl, hb5⟩
  have hb6 : Below w.heap.size w w5 := Below.next' hb4 hb5 hb4.size
  clear hb5 hb4
  go_wp2
  go_ret
  exact ⟨by rw [HW.out]; rfl, hb6⟩

end Go.Proofs.YtaanaoimnecenaaDoor
