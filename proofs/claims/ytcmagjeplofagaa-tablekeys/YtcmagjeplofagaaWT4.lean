/-
  The walk of table's Same: slices.EqualFunc with value's Same.
-/
import Derived.Test.YtcmagjeplofagaaWS
namespace Go.Proofs.Ytcmagjeplofagaa
open Go.RowKit

theorem take_all_eq {l r : List V} {n : Nat} (hl : l.length = n) (hr : r.length = n) (h : l.take n = r.take n) : l = r := by
  rw [List.take_of_length_le (by omega), List.take_of_length_le (by omega)] at h
  exact h

theorem no_of {b : Bool} {p : Prop} (h : b = true ↔ p) (hp : ¬ p) : b = false := by
  rcases b with _ | _
  · rfl
  · exact absurd (h.1 rfl) hp

set_option maxHeartbeats 1000000 in
theorem equalF_any (A B : Option Addr) (n m c d : Nat) (l r : List V) (b : Bool) (w : World) (ha : SegV w A n l) (hb : SegV w B m r) (hn : n ≤ 1000000) (hlr : b = true ↔ l = r) :
    Calls Try.prog 48 #[.slice A n c, .slice B m d, .func (.func 49) #[] #[]] w fun e w' => e = .returned (.bool b) ∧ Below w.heap.size w w' := by
  have HLR := Lib.hid hlr
  clear hlr
  by_cases hnm : n = m
  · subst hnm
    go_enter Try.func48, Try.ntmps48
    go_wp2
    go_loopw [17] (fun i w' => ∃ k : Nat, k ≤ n ∧ i = .int .i64 k ∧ l.take k = r.take k ∧ Below w.heap.size w w') (fun i _ => n - (intOf i).toNat)
    case atStart => exact ⟨0, by omega, rfl, by simp, Below.refl _ _⟩
    case round =>
      obtain ⟨k, hk, rfl, he, hbw⟩ := hrel
      by_cases hlt : k < n
      · obtain ⟨g, o, rfl, h0, h1, h2⟩ := (ha.below hbw).at_ hlt
        obtain ⟨g', o', rfl, h0', h1', h2'⟩ := (hb.below hbw).at_ hlt
        have hl1 : k < l.length := by rw [ha.1]; exact hlt
        have hl2 : k < r.length := by rw [hb.1]; exact hlt
        have HE := Lib.hid he
        clear he
        have hx1 := List.take_succ_eq_append_getElem hl1
        have hx2 := List.take_succ_eq_append_getElem hl2
        have hne : l[k] ≠ r[k] → l ≠ r := by rintro h rfl; exact h rfl
        have HX1 := Lib.hid hx1
        have HX2 := Lib.hid hx2
        have HNE := Lib.hid hne
        clear hx1 hx2 hne
        generalize l[k]'(by rw [ha.1]; exact hlt) = x at *
        generalize r[k]'(by rw [hb.1]; exact hlt) = y at *
        have hg := World.block_lt_of_cell? _ _ h0
        have hg' := World.block_lt_of_cell? _ _ h0'
        simp only at hg hg'
        by_cases heq : x = y
        · have ht : V.eqB x y = true := (V.eqB_iff _ _).2 heq
          have HQ := Lib.hid heq
          clear heq
          go_wp2_with fail
          refine (same_any x y _).mono ?_
          rintro e w1 ⟨rfl, hb1⟩
          rw [ht]
          have hbw1 : Below w.heap.size w w1 := by
            refine Below.next' ?_ hb1 ?_
            · exact (hbw.alloc hbw.size _).alloc (by have := hbw.size; simp; omega) _
            · have := hbw.size; simp; omega
          clear hb1
          go_wp2
          go_roundw
          case rel => exact ⟨k + 1, hlt, by go_num, by rw [HX1.out, HX2.out, HE.out, HQ.out], hbw1⟩
          case measure => simp [intOf]; omega
        · have ht : V.eqB x y = false := by
            rw [Bool.eq_false_iff]; intro h; exact heq ((V.eqB_iff _ _).1 h)
          go_wp2_with fail
          refine (same_any x y _).mono ?_
          rintro e w1 ⟨rfl, hb1⟩
          rw [ht]
          have hbw1 : Below w.heap.size w w1 := by
            refine Below.next' ?_ hb1 ?_
            · exact (hbw.alloc hbw.size _).alloc (by have := hbw.size; simp; omega) _
            · have := hbw.size; simp; omega
          clear hb1
          go_wp2
          go_ret
          exact ⟨ret_bool (no_of HLR.out (HNE.out heq)).symm, hbw1⟩
      · have hkn : k = n := by omega
        subst hkn
        have hle := take_all_eq ha.1 hb.1 he
        have HE := Lib.hid hle
        clear hle he
        go_wp2
        go_ret
        exact ⟨ret_bool (HLR.out.2 HE.out).symm, hbw⟩
  · have h1 : ((n : Int) != (m : Int)) = true := by simp; omega
    go_enter Try.func48, Try.ntmps48
    go_wp2
    go_ret
    have : ¬ l = r := by rintro rfl; exact hnm (ha.1.symm.trans hb.1)
    exact ⟨ret_bool (no_of HLR.out this).symm, Below.refl _ _⟩

set_option maxHeartbeats 400000 in
theorem tsame_any (A B : Option Addr) (n m c d : Nat) (l r : List V) (b : Bool) (w : World) (ha : SegV w A n l) (hb : SegV w B m r) (hn : n ≤ 1000000) (hlr : b = true ↔ l = r) :
    Calls Try.prog 27 #[.slice A n c, .slice B m d] w fun e w' => e = .returned (.bool b) ∧ Below w.heap.size w w' := by
  have HLR := Lib.hid hlr
  clear hlr
  go_enter Try.func27, Try.ntmps27
  go_wp2_with fail
  refine (equalF_any A B n m c d l r b _ ha hb hn HLR.out).mono ?_
  rintro e w1 ⟨rfl, hb1⟩
  go_wp2
  go_ret
  exact ⟨rfl, hb1⟩
end Go.Proofs.Ytcmagjeplofagaa
