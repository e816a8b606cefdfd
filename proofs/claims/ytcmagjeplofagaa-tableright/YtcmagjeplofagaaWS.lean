/-
  The walk of the document's Same of two lists of values.
-/
import Derived.Test.YtcmagjeplofagaaWV
namespace Go.Proofs.Ytcmagjeplofagaa
open Go.RowKit

set_option maxHeartbeats 1000000 in
theorem sameL_any (A B : Option Addr) (n m c d : Nat) (l r : List V) (w : World) (ha : SegV w A n l) (hb : SegV w B m r) (hn : n ≤ 1000000) :
    Calls Try.prog 25 #[.slice A n c, .slice B m d] w fun e w' => (∃ b, e = .returned (.bool b) ∧ (b = true ↔ l = r)) ∧ ∃ k, w' = w.drewN k := by
  by_cases hnm : n = m
  · subst hnm
    go_enter Try.func25, Try.ntmps25
    go_wp2
    go_loopw [5] (fun i w' => ∃ k : Nat, k ≤ n ∧ i = .int .i64 k ∧ l.take k = r.take k ∧ ∃ q, w' = w.drewN q) (fun i _ => n - (intOf i).toNat)
    case atStart => exact ⟨0, by omega, rfl, by simp, 0, rfl⟩
    case round =>
      obtain ⟨k, hk, rfl, he, q, rfl⟩ := hrel
      by_cases hlt : k < n
      · obtain ⟨g, o, rfl, h0, h1, h2⟩ := ha.at_ hlt
        obtain ⟨g', o', rfl, h0', h1', h2'⟩ := hb.at_ hlt
        have hl1 : k < l.length := by rw [ha.1]; exact hlt
        have hl2 : k < r.length := by rw [hb.1]; exact hlt
        have HE := Lib.hid he
        clear he
        have hx1 := List.take_succ_eq_append_getElem hl1
        have hx2 := List.take_succ_eq_append_getElem hl2
        have hne : l[k] ≠ r[k] → l ≠ r := by rintro h rfl; exact h rfl
        have HX1 := Lib.hid hx1
        have HX2 := Lib.hid hx2
        have HNE := Lib.hid hne
        clear hx1 hx2 hne
        generalize l[k]'(by rw [ha.1]; exact hlt) = x at *
        generalize r[k]'(by rw [hb.1]; exact hlt) = y at *
        have hrun := fun W => run_neqV x y W
        by_cases heq : x = y
        · have ht : V.eqB x y = true := (V.eqB_iff _ _).2 heq
          rw [ht] at hrun
          simp only [Bool.not_true] at hrun
          have HQ := Lib.hid heq
          clear heq
          go_wp2
          go_quiet (fail)
          go_wp2
          go_roundw
          case rel =>
            exact ⟨k + 1, hlt, by go_num, by rw [HX1.out, HX2.out, HE.out, HQ.out], _, rfl⟩
          case measure => simp [intOf]; omega
        · have ht : V.eqB x y = false := by
            rw [Bool.eq_false_iff]; intro h; exact heq ((V.eqB_iff _ _).1 h)
          rw [ht] at hrun
          simp only [Bool.not_false] at hrun
          go_wp2
          go_quiet (fail)
          go_wp2
          go_ret
          exact ⟨⟨false, rfl, by simp; exact HNE.out heq⟩, _, World.drewN_drewN _ _ _⟩
      · go_wp2
        go_ret
        refine ⟨⟨true, rfl, ?_⟩, _, rfl⟩
        have h1 := ha.1
        have h2 := hb.1
        rw [List.take_of_length_le (by omega), List.take_of_length_le (by omega)] at he
        simp [he]
  · have h1 : ((n : Int) != (m : Int)) = true := by simp; omega
    go_enter Try.func25, Try.ntmps25
    go_wp2
    go_ret
    refine ⟨⟨false, rfl, ?_⟩, 0, rfl⟩
    simp
    rintro rfl
    exact hnm (ha.1.symm.trans hb.1)

theorem sameL_yes (A B : Option Addr) (n m c d : Nat) (l : List V) (w : World) (ha : SegV w A n l) (hb : SegV w B m l) (hn : n ≤ 1000000) :
    Calls Try.prog 25 #[.slice A n c, .slice B m d] w fun e w' => e = .returned (.bool true) ∧ Below w.heap.size w w' :=
  (sameL_any A B n m c d l l w ha hb hn).mono fun e w' h => by
    obtain ⟨⟨b, h1, h2⟩, k, rfl⟩ := h
    have h3 := h2.2 rfl
    subst h3
    exact ⟨h1, below_drewN (Below.refl _ _) k⟩

end Go.Proofs.Ytcmagjeplofagaa
