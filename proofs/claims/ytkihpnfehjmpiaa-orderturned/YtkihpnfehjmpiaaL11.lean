/-
  The walk of the law OrderReads.
-/
import Derived.Test.YtkihpnfehjmpiaaWR
import Derived.Test.YtkihpnfehjmpiaaWS
import Derived.Test.YtkihpnfehjmpiaaOpenV
namespace Go.Proofs.Ytkihpnfehjmpiaa
open Go.RowKit

theorem keyOne_pos (v : V) : 1 ≤ (keyOne v).length := by
  unfold keyOne
  split
  · simp
  · split <;> simp
theorem keyOf_ge (l : List V) : l.length ≤ (keyOf l).length := by
  induction l with
  | nil => simp
  | cons v l ih =>
    have := keyOne_pos v
    have e : keyOf (v :: l) = keyOne v ++ keyOf l := rfl
    rw [e, List.length_append, List.length_cons]
    omega

theorem backP_some {w w' : World} {l : List UInt8} {e : Ending} {L : List V} (hL : back l = some L) (h : BackP w l e w') : ∃ v, e = .returned (.tuple #[v, .int .i64 0]) ∧ OwnV w' w.heap.size 26 v L ∧ Below w.heap.size w w' := by
  obtain ⟨v, h1, h2, h3⟩ := h
  rw [hL] at h1 h2
  exact ⟨v, h1, h2, h3⟩
theorem backP_none {w w' : World} {l : List UInt8} {e : Ending} (hL : back l = none) (h : BackP w l e w') : ∃ v, e = .returned (.tuple #[v, .int .i64 2]) ∧ OwnV w' w.heap.size 26 v [] ∧ Below w.heap.size w w' := by
  obtain ⟨v, h1, h2, h3⟩ := h
  rw [hL] at h1 h2
  exact ⟨v, h1, h2, h3⟩

set_option maxHeartbeats 1000000 in
theorem orderReads_walk (A : Option Addr) (n c : Nat) (l : List UInt8) (w : World) (ha : Seg w A n l) (hnc : n ≤ c) (hcm : c ≤ maxLen) :
    Calls Try.prog 11 #[.slice A n c] w fun e w' => e = .returned (.bool true) ∧ Below w.heap.size w w' := by
  have hl := ha.1
  by_cases h1 : n ≤ 260
  · have h1' : ¬ (260 : Int) < (n : Int) := by omega
    rcases hB : back l with _ | L
    · go_enter Try.func11, Try.ntmps11
      go_wp2_with fail
      refine (back_any A n c l _ ha hnc hcm (by omega)).mono ?_
      rintro e w1 hP
      obtain ⟨r1, rfl, ho1, hb1⟩ := backP_none hB hP
      clear hP
      obtain ⟨A1, c1, rfl, hs1, hlc1, hcm1⟩ := ho1.forms
      clear ho1
      go_wp2_with fail
      refine (rback_any A n c l _ (ha.below hb1) hnc hcm (by omega)).mono ?_
      rintro e w2 hP
      obtain ⟨r2, rfl, ho2, hb2⟩ := backP_none hB hP
      clear hP
      have hbw2 : Below w.heap.size w w2 := Below.next' hb1 hb2 hb1.size
      obtain ⟨A2, c2, rfl, hs2, hlc2, hcm2⟩ := ho2.forms
      clear ho2 hb1 hb2
      go_wp2_with fail
      refine (nought_any _).mono ?_
      rintro e w3 ⟨rfl, hb3⟩
      have hbw3 : Below w.heap.size w w3 := Below.next' hbw2 hb3 hbw2.size
      clear hb3
      go_wp2_with fail
      refine (sameL_yes A1 A2 _ _ c1 c2 [] _ (SegV.nil _ _) (SegV.nil _ _) (by simp)).mono ?_
      rintro e w4 ⟨rfl, hb4⟩
      go_wp2
      go_ret
      exact ⟨rfl, Below.next' hbw3 hb4 hbw3.size⟩
    · obtain ⟨hok, hkey⟩ := key_back l.length l L (Nat.le_refl _) hB
      have hLn : L.length ≤ 260 := by
        have := keyOf_ge L
        rw [hkey] at this
        omega
      have HKEY := Lib.hid hkey
      clear hkey
      go_enter Try.func11, Try.ntmps11
      go_wp2_with fail
      refine (back_any A n c l _ ha hnc hcm (by omega)).mono ?_
      rintro e w1 hP
      obtain ⟨r1, rfl, ho1, hb1⟩ := backP_some hB hP
      clear hP
      obtain ⟨A1, c1, rfl, hs1, hlc1, hcm1⟩ := ho1.forms
      clear ho1
      go_wp2_with fail
      refine (rback_any A n c l _ (ha.below hb1) hnc hcm (by omega)).mono ?_
      rintro e w2 hP
      obtain ⟨r2, rfl, ho2, hb2⟩ := backP_some hB hP
      clear hP
      have hbw2 : Below w.heap.size w w2 := Below.next' hb1 hb2 hb1.size
      replace hs1 := hs1.below hb2
      obtain ⟨A2, c2, rfl, hs2, hlc2, hcm2⟩ := ho2.forms
      clear ho2 hb1 hb2
      go_wp2_with fail
      refine (nought_any _).mono ?_
      rintro e w3 ⟨rfl, hb3⟩
      have hbw3 : Below w.heap.size w w3 := Below.next' hbw2 hb3 hbw2.size
      replace hs1 := hs1.below hb3
      replace hs2 := hs2.below hb3
      clear hb3
      go_wp2_with fail
      refine (sameL_yes A1 A2 _ _ c1 c2 L _ hs1 hs2 (by omega)).mono ?_
      rintro e w4 ⟨rfl, hb4⟩
      have hbw4 : Below w.heap.size w w4 := Below.next' hbw3 hb4 hbw3.size
      replace hs1 := hs1.below hb4
      clear hb4 hs2
      go_wp2_with fail
      refine (key_any A1 _ c1 L _ hs1 (by omega) hok).mono ?_
      rintro e w5 ⟨r5, rfl, ho5, hb5⟩
      rw [HKEY.out] at ho5
      have hbw5 : Below w.heap.size w w5 := Below.next' hbw4 hb5 hbw4.size
      obtain ⟨A5, c5, rfl, hs5, hlc5, hcm5⟩ := ho5.forms
      rw [hl] at hs5 hlc5 ⊢
      clear ho5 hb5
      go_wp2_with fail
      refine (bytes_yes A5 A _ _ c5 c l _ hs5 (ha.below hbw5) (by unfold maxLen; omega)).mono ?_
      rintro e w6 ⟨rfl, hb6⟩
      go_wp2
      go_ret
      exact ⟨rfl, Below.next' hbw5 hb6 hbw5.size⟩
  · have h1' : (260 : Int) < (n : Int) := by omega
    go_enter Try.func11, Try.ntmps11
    go_wp2_with fail
    refine (nought_any _).mono ?_
    rintro e w1 ⟨rfl, hb1⟩
    go_wp2
    go_ret
    exact ⟨rfl, hb1⟩

end Go.Proofs.Ytkihpnfehjmpiaa
