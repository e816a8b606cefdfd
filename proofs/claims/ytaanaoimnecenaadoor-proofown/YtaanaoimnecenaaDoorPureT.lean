/-
  Plain facts on the schedule of words, of no program.
-/
import Derived.Test.YtaanaoimnecenaaDoorPureS
namespace Go.Proofs.YtaanaoimnecenaaDoor
open Go.RowKit

theorem getD_snoc_left (L : List (BitVec 32)) (x : BitVec 32) (i : Nat) (h : i < L.length) : (L ++ [x]).getD i 0 = L.getD i 0 := by
  simp [List.getD_eq_getElem?_getD, List.getElem?_append_left h]
theorem getD_snoc_last (L : List (BitVec 32)) (x : BitVec 32) : (L ++ [x]).getD L.length 0 = x := by
  simp [List.getD_eq_getElem?_getD]
theorem sched_mono (W : List (BitVec 32)) (k m i : Nat) (hk : k ≤ m) (h : i < W.length + k) : (sched W m).getD i 0 = (sched W k).getD i 0 := by
  induction m with
  | zero =>
    obtain rfl : k = 0 := by omega
    rfl
  | succ m ih =>
    by_cases e : k = m + 1
    · rw [e]
    · rw [sched]
      show (sched W m ++ [nextW (sched W m)]).getD i 0 = _
      rw [getD_snoc_left _ _ _ (by rw [sched_length]; omega), ih (by omega)]
theorem own16_at (p : List UInt8) (k i : Nat) (h : i < k) : (own16 p k).getD i 0 = wd ((p.drop (4 * i)).take 4) := by
  induction k with
  | zero => omega
  | succ k ih =>
    rw [own16]
    by_cases e : i = k
    · subst e
      have := getD_snoc_last (own16 p i) (wd ((p.drop (4 * i)).take 4))
      rw [own16_length] at this
      exact this
    · rw [getD_snoc_left _ _ _ (by rw [own16_length]; omega), ih (by omega)]
/-- A block's words: its own ones, and each that follows out of four ahead of it. -/
structure Words (blk : List UInt8) (S : List (BitVec 32)) : Prop where
  len : S.length = 64
  low : ∀ i, i < 16 → S.getD i 0 = wd ((blk.drop (4 * i)).take 4)
  high : ∀ i, i < 48 → S.getD (i + 16) 0 = S.getD i 0 + sm0 (S.getD (i + 1) 0) + S.getD (i + 9) 0 + sm1 (S.getD (i + 14) 0)
theorem sched_words (blk : List UInt8) : Words blk (sched (own16 blk 16) 48) := by
  refine ⟨by rw [sched_length, own16_length], fun i hi => ?_, fun i hi => ?_⟩
  · rw [sched_mono _ 0 48 i (by omega) (by rw [own16_length]; omega)]
    exact own16_at _ _ _ hi
  · have hl : (sched (own16 blk 16) i).length = 16 + i := by rw [sched_length, own16_length]
    rw [sched_mono _ (i + 1) 48 (i + 16) (by omega) (by rw [own16_length]; omega), sched]
    show (sched (own16 blk 16) i ++ [nextW (sched (own16 blk 16) i)]).getD (i + 16) 0 = _
    have := getD_snoc_last (sched (own16 blk 16) i) (nextW (sched (own16 blk 16) i))
    rw [hl, Nat.add_comm] at this
    rw [this]
    unfold nextW
    rw [hl, show 16 + i - 16 = i from by omega, show 16 + i - 15 = i + 1 from by omega, show 16 + i - 7 = i + 9 from by omega, show 16 + i - 2 = i + 14 from by omega]
    rw [sched_mono _ i 48 i (by omega) (by rw [own16_length]; omega), sched_mono _ i 48 (i + 1) (by omega) (by rw [own16_length]; omega), sched_mono _ i 48 (i + 9) (by omega) (by rw [own16_length]; omega), sched_mono _ i 48 (i + 14) (by omega) (by rw [own16_length]; omega)]
theorem take_getD (L S : List (BitVec 32)) (k j : Nat) (h : L.take k = S.take k) (hj : j < k) : L.getD j 0 = S.getD j 0 := by
  rw [← getD_take L k j hj, h, getD_take S k j hj]
theorem take_next (L S : List (BitVec 32)) (k : Nat) (h : L.take k = S.take k) (hL : k < L.length) (hS : k < S.length) : (L.set k (S.getD k 0)).take (k + 1) = S.take (k + 1) := by
  rw [set_take _ _ _ hL, h, List.take_succ_eq_append_getElem hS, List.getD_eq_getElem?_getD, List.getElem?_eq_getElem hS]
  rfl

/-- The eight words, those behind j moved on by one. -/
def moved (t : S8) (j : Nat) : List (BitVec 32) := t.list.take (j + 1) ++ (t.list.drop j).take (7 - j)
theorem moved_len (t : S8) (j : Nat) (h : j ≤ 7) : (moved t j).length = 8 := by simp [moved, S8.list]; omega
theorem moved_set (t : S8) (j : Nat) (h : j < 7) : (moved t (j + 1)).set (j + 1) ((moved t (j + 1)).getD j 0) = moved t j := by
  match j, h with
  | 0, _ | 1, _ | 2, _ | 3, _ | 4, _ | 5, _ | 6, _ => rfl
theorem moved_start (t : S8) : moved t 7 = t.list := rfl
theorem moved_end (t : S8) : moved t 0 = [t.a, t.a, t.b, t.c, t.d, t.e, t.f, t.g] := rfl

end Go.Proofs.YtaanaoimnecenaaDoor
