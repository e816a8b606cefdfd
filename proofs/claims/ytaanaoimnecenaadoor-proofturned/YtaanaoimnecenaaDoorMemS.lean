/-
  A row of bytes of the call's own, one byte of which is written over.
-/
import Derived.Test.YtaanaoimnecenaaDoorW1
namespace Go.Proofs.YtaanaoimnecenaaDoor
open Go.RowKit

theorem cellsB_set (l : List UInt8) (i : Nat) (c : UInt8) : cellsB (l.set i c) = (cellsB l).set i (.int .u8 (c.toNat : Int)) := by
  unfold cellsB
  rw [List.map_set]

/-- A row of the call's own, one byte of which is written over. -/
theorem own_set {w1 : World} {B : Nat} {v1 : Value} {l : List UInt8} (ho : Own w1 B 5 v1 l) (i : Nat) (hi : i < l.length) :
    ∃ g cap, v1 = .slice (some ⟨g, 0, none⟩) l.length cap ∧ B ≤ g ∧ g < w1.heap.size ∧ w1.cell? ⟨g, i, none⟩ = some (.int .u8 (l[i].toNat : Int)) ∧ w1.frozen? ⟨g, i, none⟩ = false ∧ l.length ≤ cap ∧ cap ≤ maxLen ∧
      ∀ c : UInt8, Seg (w1.setCell ⟨g, i, none⟩ (.int .u8 (c.toNat : Int))) (some ⟨g, 0, none⟩) l.length (l.set i c) := by
  rcases hh : ho.2 with ⟨_, hz⟩ | ⟨g, cap, cur, e, hb, hg, h3, h4, h5, h6⟩
  · omega
  · subst e
    have hown : w1.ownsRow B 5 1 (.slice (some ⟨g, 0, none⟩) l.length cap) l.length (cellsB l) := ho
    have hc1 : w1.cell? ⟨g, i, none⟩ = some (.int .u8 (l[i].toNat : Int)) := by
      obtain ⟨A9, c9, e9, hs9, _, _⟩ := ho.forms
      injection e9 with e9a
      have h := hs9.cell e9a.symm (k := i) hi
      rw [Nat.zero_add] at h
      exact h
    refine ⟨g, cap, rfl, hb, World.block_lt_of_cell? w1 _ hc1, hc1, hown.frozenAt i, h3, h4, fun c => ?_⟩
    have hst := (hown.stored i (.int .u8 (c.toNat : Int))).1
    have h9 : Own (w1.setCell ⟨g, i, none⟩ (.int .u8 (c.toNat : Int))) B 5 (.slice (some ⟨g, 0, none⟩) l.length cap) (l.set i c) := by
      unfold Own
      rw [List.length_set, cellsB_set]
      exact hst
    obtain ⟨A9, c9, e9, hs9, _, _⟩ := h9.forms
    injection e9 with e9a
    rw [e9a]
    rw [List.length_set] at hs9
    exact hs9

end Go.Proofs.YtaanaoimnecenaaDoor
