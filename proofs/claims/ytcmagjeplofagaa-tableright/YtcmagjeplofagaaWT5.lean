/-
  The walk of the law's 'few', and of the small functions on tables.
-/
import Derived.Test.YtcmagjeplofagaaMemT
import Derived.Test.YtcmagjeplofagaaWT3
import Derived.Test.YtcmagjeplofagaaMemS2
namespace Go.Proofs.Ytcmagjeplofagaa
open Go.RowKit

def fewB (L : List Frm) : Bool := decide (∀ f ∈ L, f.cols.length ≤ 10) && decide (L.length ≤ 6)

set_option maxHeartbeats 400000 in
theorem few_any (A : Option Addr) (n c : Nat) (L : List Frm) (b : Bool) (w : World) (ha : SegF w A n L) (hn : n ≤ maxLen) (hb : fewB L = b) :
    Calls Try.prog 11 #[.slice A n c] w fun e w' => e = .returned (.bool b) ∧ w = w' := by
  have HB := Lib.hid hb
  clear hb
  unfold maxLen at hn
  go_enter Try.func11, Try.ntmps11
  go_wp2
  go_loop [3] (fun i => ∃ k : Nat, k ≤ n ∧ i = .int .i64 k ∧ ∀ j (hj : j < L.length), j < k → L[j].cols.length ≤ 10) (fun i => n - (intOf i).toNat)
  case atStart => exact ⟨0, Nat.zero_le _, rfl, fun j _ h => absurd h (by omega)⟩
  case round =>
    obtain ⟨k, hk, rfl, hall⟩ := hrel
    have HALL := Lib.hid hall
    clear hall
    have hl := ha.len
    by_cases hlt : k < n
    · obtain ⟨g, o, B, m, c', rfl, h0, h1, h2, h3, h4, _, _⟩ := SegF.at_ ha hlt
      have hm := h2.1
      have hkL : k < L.length := by rw [hl]; exact hlt
      have HM := Lib.hid hm
      have HL := Lib.hid hl
      clear hm hl
      by_cases h10 : m ≤ 10
      · have h10' : (m : Int) ≤ 10 := by omega
        go_wp2
        go_round
        case rel =>
          refine ⟨k + 1, hlt, by go_num, fun j hj hjk => ?_⟩
          by_cases e : j = k
          · subst e
            rw [HM.out]
            exact h10
          · exact HALL.out j hj (by omega)
        case measure => simp [intOf]; omega
      · have h10' : (10 : Int) < (m : Int) := by omega
        go_wp2
        go_ret
        refine ⟨?_, rfl⟩
        have : b = false := by
          rw [← HB.out]
          unfold fewB
          rw [decide_eq_false, Bool.false_and]
          intro h
          have := h (L[k]'hkL) (List.getElem_mem _)
          rw [HM.out] at this
          exact h10 this
        rw [this]
        rfl
    · have hk' : k = n := by omega
      subst hk'
      have HL := Lib.hid hl
      clear hl
      go_wp2
      go_ret
      refine ⟨ret_bool ?_, rfl⟩
      rw [← HB.out]
      unfold fewB
      have h1 : decide (∀ f ∈ L, f.cols.length ≤ 10) = true := by
        rw [decide_eq_true_eq]
        intro f hf
        obtain ⟨j, hj, rfl⟩ := List.getElem_of_mem hf
        exact HALL.out j hj (by rw [← HL.out]; exact hj)
      rw [h1, Bool.true_and, HL.out, Bool.eq_iff_iff]
      simp
      omega

end Go.Proofs.Ytcmagjeplofagaa
