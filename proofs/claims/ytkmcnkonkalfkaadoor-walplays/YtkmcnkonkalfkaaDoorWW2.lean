/-
  The walk of the program's first: the payload of the frame with which a row begins.
-/
import Derived.Test.YtkmcnkonkalfkaaDoorWW1
import Derived.Deep.RegionHeld3
namespace Go.Proofs.YtkmcnkonkalfkaaDoor
open Go.RowKit

set_option maxHeartbeats 2000000 in
theorem first_short (A : Option Addr) (n c : Nat) (w : World) (hn : n < 8) :
    Calls Tryd.prog 38 #[.slice A n c] w fun e w' => e = .returned (.tuple #[.slice none 0 0, .bool false]) ∧ w' = w := by
  have d0 : decide ((n : Int) < 8) = true := decide_eq_true (by omega)
  go_enter Tryd.func38, Tryd.ntmps38
  go_wp2
  go_ret2
  exact ⟨rfl, rfl⟩

set_option maxHeartbeats 2000000 in
theorem first_long (g o n c : Nat) (l : List UInt8) (w : World) (ha : Seg w (some ⟨g, o, none⟩) n l) (h8 : 8 ≤ n) (hc : n ≤ c) (hcm : c ≤ maxLen) (N : Nat) (hN : rdN (l.take 4) = N) (hb : 1048576 < N ∨ n - 8 < N) :
    Calls Tryd.prog 38 #[.slice (some ⟨g, o, none⟩) n c] w fun e w' => e = .returned (.tuple #[.slice none 0 0, .bool false]) ∧ ∃ k, w' = w.drewN k := by
  have HN := Lib.hid hN
  clear hN
  have d0 : decide ((n : Int) < 8) = false := decide_eq_false (by omega)
  obtain ⟨R, hR⟩ : ∃ R, (if c = 8 then some (⟨g, o, none⟩ : Addr) else some ⟨g, o + 8, none⟩) = R := ⟨_, rfl⟩
  simp only [maxLen] at hcm
  go_enter Tryd.func38, Tryd.ntmps38
  go_wp2_with fail
  go_quiet (fail)
  go_wp2_with fail
  refine (readLength_any _ _ (l.take 4) _ ((ha.upto 4 (by omega)).drewN _)).mono ?_
  rw [HN.out]
  rintro e w1 ⟨rfl, k1, rfl⟩
  by_cases hbig : 1048576 < N
  · have d1 : decide ((1048576 : Int) < (N : Int)) = true := decide_eq_true (by omega)
    go_wp2
    go_ret2
    first | exact ⟨rfl, _, rfl⟩ | exact ⟨rfl, _, World.drewN_drewN _ _ _⟩
  · have d1 : decide ((1048576 : Int) < (N : Int)) = false := decide_eq_false (by omega)
    have d2 : decide (((n - 8 : Nat) : Int) < (N : Int)) = true := decide_eq_true (by omega)
    have d3 : decide ((n : Int) - 8 < (N : Int)) = true := decide_eq_true (by omega)
    go_wp2
    go_ret2
    first | exact ⟨rfl, _, rfl⟩ | exact ⟨rfl, _, World.drewN_drewN _ _ _⟩

set_option maxHeartbeats 4000000 in
theorem first_rest (g o n c : Nat) (l : List UInt8) (w : World) (ha : Seg w (some ⟨g, o, none⟩) n l) (h8 : 8 ≤ n) (hc : n ≤ c) (hcm : c ≤ maxLen) (N : Nat) (hN : rdN (l.take 4) = N) (hb : N ≤ 1048576) (hb2 : N ≤ n - 8) (ht : Tab w)
    (q : List UInt8) (hq : (l.drop 8).take N = q) (b : Bool) (hbb : decide ((l.drop 4).take 4 = sum4 (l.take 4) q) = b) :
    Calls Tryd.prog 38 #[.slice (some ⟨g, o, none⟩) n c] w fun e w' =>
      (if b = true then ∃ B c', e = .returned (.tuple #[.slice B N c', .bool true]) ∧ Seg w' B N q ∧ N ≤ c' ∧ c' ≤ maxLen else e = .returned (.tuple #[.slice none 0 0, .bool false])) ∧ Below w.heap.size w w' := by
  have HN := Lib.hid hN
  clear hN
  have d0 : decide ((n : Int) < 8) = false := decide_eq_false (by omega)
  obtain ⟨R, hR⟩ : ∃ R, (if c = 8 then some (⟨g, o, none⟩ : Addr) else some ⟨g, o + 8, none⟩) = R := ⟨_, rfl⟩
  have h4 := ha.upto 4 (by omega)
  have hs5 : Seg w (some ⟨g, o + 4, none⟩) 4 ((l.drop 4).take 4) := by
    have := ha.cut 4 8 (by omega) (by omega)
    exact this
  have hs8 : Seg w R N q := by
    have := (ha.from_ 8 c h8 hc).upto N hb2
    rw [hR, hq] at this
    exact this
  simp only [maxLen] at hcm
  go_enter Tryd.func38, Tryd.ntmps38
  go_wp2_with fail
  go_quiet (fail)
  go_wp2_with fail
  refine (readLength_any _ _ (l.take 4) _ (h4.drewN _)).mono ?_
  rw [HN.out]
  rintro e w1 ⟨rfl, k1, rfl⟩
  rw [World.drewN_drewN]
  have d1 : decide ((1048576 : Int) < (N : Int)) = false := decide_eq_false (by omega)
  have d2 : decide (((n - 8 : Nat) : Int) < (N : Int)) = false := decide_eq_false (by omega)
  have d3 : decide ((n : Int) - 8 < (N : Int)) = false := decide_eq_false (by omega)
  have hbw := Below.drewN' (Below.refl w.heap.size w) (nq + k1)
  have h4 := h4.drewN (nq + k1)
  have hs5 := hs5.drewN (nq + k1)
  have hs8 := hs8.drewN (nq + k1)
  have ht := Tab.below ht hbw
  have HBB := Lib.hid hbb
  clear hbb ha hq
  generalize w.drewN (nq + k1) = W at *
  have hS : ∀ W', Seg W' (some ⟨g, o + 4, none⟩) 4 ((l.drop 4).take 4) → (convert 22 9 (.slice (some ⟨g, o + 4, none⟩) 4 (c - 4))).run Tryd.prog W' = .ok (.string ⟨((l.drop 4).take 4).toArray⟩) W' :=
    fun W' h => run_string_seg (P := Tryd.prog) W' _ _ 5 bt Tryd.underlying9 _ _ _ _ h
  have HS := Lib.hid hS
  clear hS
  obtain ⟨S5, h5⟩ : ∃ S5 : ByteArray, (⟨((l.drop 4).take 4).toArray⟩ : ByteArray) = S5 := ⟨_, rfl⟩
  have H5 := Lib.hid h5
  obtain ⟨T, hT⟩ : ∃ T : ByteArray, (⟨(sum4 (l.take 4) q).toArray⟩ : ByteArray) = T := ⟨_, rfl⟩
  have HT := Lib.hid hT
  have heq : (S5.toList == T.toList) = b := by
    rw [← h5, ← hT, ← HBB.out, Bool.eq_iff_iff, beq_iff_eq, toList_inj, decide_eq_true_iff]
    constructor
    · intro h
      have := congrArg ByteArray.data h
      exact List.toArray_inj this
    · intro h
      rw [h]
  clear h5 hT
  go_wp2_with fail
  go_region_held3 (fun W' => (convert 22 9 (.slice (some ⟨g, o + 4, none⟩) 4 (c - 4))).run Tryd.prog W' = .ok (.string S5) W' ∧ Below W.heap.size W W')
    (first
      | exact ⟨by rw [← H5.out]; exact HS.out _ hs5.drew, (Below.refl _ _).drew⟩
      | exact ⟨by rw [← H5.out]; exact HS.out _ (hs5.below hB), hB⟩)
    (first
      | (go_at_call 37
         refine (shortSum_any (some ⟨g, o, none⟩) c (l.take 4) R N (c - 8) q _ (h4.below (‹_ ∧ Below _ _ _›).2) (hs8.below (‹_ ∧ Below _ _ _›).2) hb (Tab.below ht (‹_ ∧ Below _ _ _›).2)).mono ?_
         rw [HT.out]
         rintro e w3 ⟨rfl, hb3⟩
         have hB : Below W.heap.size W w3 := Below.next (‹_ ∧ Below _ _ _›).2 hb3))
  have hbw3 := Below.next' hbw hB hbw.size
  have hs83 := hs8.below hB
  clear hB hs5 h4 hs8 hbw
  cases b with
  | true =>
    go_wp2
    go_ret2
    exact ⟨⟨_, _, rfl, hs83, by omega, by simp only [maxLen]; omega⟩, hbw3⟩
  | false =>
    go_wp2
    go_ret2
    exact ⟨rfl, hbw3⟩

/-- What first answers. -/
def FirstR (w' : World) (l : List UInt8) (e : Ending) : Prop :=
  (firstL l = none ∧ e = .returned (.tuple #[.slice none 0 0, .bool false])) ∨
    ∃ q B c', firstL l = some q ∧ e = .returned (.tuple #[.slice B q.length c', .bool true]) ∧ Seg w' B q.length q ∧ q.length ≤ c' ∧ c' ≤ maxLen

theorem first_any (A : Option Addr) (n c : Nat) (l : List UInt8) (w : World) (ha : Seg w A n l) (hc : n ≤ c) (hcm : c ≤ maxLen) (ht : Tab w) :
    Calls Tryd.prog 38 #[.slice A n c] w fun e w' => FirstR w' l e ∧ Below w.heap.size w w' := by
  by_cases h8 : n < 8
  · refine (first_short A n c w h8).mono ?_
    rintro e w' ⟨rfl, rfl⟩
    exact ⟨.inl ⟨firstL_short (by rw [ha.1]; exact h8), rfl⟩, Below.refl _ _⟩
  · obtain ⟨g, o, rfl, _⟩ := ha.at_ (k := 0) (by omega)
    by_cases hb : 1048576 < rdN (l.take 4) ∨ n - 8 < rdN (l.take 4)
    · refine (first_long g o n c l w ha (by omega) hc hcm _ rfl hb).mono ?_
      rintro e w' ⟨rfl, k, rfl⟩
      exact ⟨.inl ⟨firstL_long (by rw [ha.1]; exact hb), rfl⟩, Below.drewN' (Below.refl _ _) _⟩
    · have hr := firstL_rest (p := l) (by rw [ha.1]; omega) (by rw [ha.1]; exact hb)
      have hl : ((l.drop 8).take (rdN (l.take 4))).length = rdN (l.take 4) := by rw [List.length_take, List.length_drop, ha.1]; omega
      refine (first_rest g o n c l w ha (by omega) hc hcm _ rfl (by omega) (by omega) ht _ rfl _ rfl).mono ?_
      rintro e w' ⟨h, hbw⟩
      refine ⟨?_, hbw⟩
      by_cases hx : (l.drop 4).take 4 = sum4 (l.take 4) ((l.drop 8).take (rdN (l.take 4)))
      · rw [if_pos hx] at hr
        rw [if_pos (decide_eq_true hx)] at h
        obtain ⟨B, c', he, hs, h1, h2⟩ := h
        refine .inr ⟨_, B, c', hr, ?_, ?_, ?_, h2⟩
        · rw [hl]; exact he
        · rw [hl]; exact hs
        · rw [hl]; exact h1
      · rw [if_neg hx] at hr
        rw [if_neg (by rw [decide_eq_true_iff]; exact hx)] at h
        exact .inl ⟨hr, h⟩

end Go.Proofs.YtkmcnkonkalfkaaDoor
