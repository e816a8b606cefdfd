/-
  Rows of values of the call's own: a first part of one, and one of which a value is written over.
-/
import Derived.Test.YtcmagjeplofagaaMemS2
namespace Go.Proofs.Ytcmagjeplofagaa
open Go.RowKit

theorem OwnV.take_ {w : World} {B : Nat} {e : TypeId} {A : Option Addr} {n c : Nat} {l : List V} (h : OwnV w B e (.slice A n c) l) (k : Nat) (hk : k ≤ l.length) (hz : 0 < l.length) : OwnV w B e (.slice A k c) (l.take k) := by
  have hlen : (l.take k).length = k := by rw [List.length_take]; omega
  refine ⟨by rw [cellsV_length], ?_⟩
  rcases h.2 with ⟨_, hn⟩ | ⟨g, cap, cur, e1, hb, hg, hnc, hcm, hcs, ht⟩
  · omega
  · injection e1 with e1 e2 e3
    subst e1 e3
    refine .inr ⟨g, c, cur, by rw [hlen], hb, hg, by omega, hcm, hcs, ?_⟩
    rw [hlen, cellsV_take, ← ht, List.take_take]
    congr 1
    have : k * 3 ≤ l.length * 3 := Nat.mul_le_mul_right _ hk
    omega

theorem cellsV_set3 (l : List V) : ∀ (i : Nat) (_ : i < l.length) (x : V), cellsV (l.set i x) = (((cellsV l).set (i * 3) (.int .u8 x.k)).set (i * 3 + 1) (.int .i64 x.n)).set (i * 3 + 2) (.string x.s) := by
  induction l with
  | nil => intro i h; simp at h
  | cons v l ih =>
    intro i h x
    rcases i with _ | i
    · rfl
    · have h' : i < l.length := by simpa using h
      have e : (i + 1) * 3 = i * 3 + 1 + 1 + 1 := by omega
      have e1 : (i + 1) * 3 + 1 = (i * 3 + 1) + 1 + 1 + 1 := by omega
      have e2 : (i + 1) * 3 + 2 = (i * 3 + 2) + 1 + 1 + 1 := by omega
      rw [e1, e2, e]
      simp only [List.set_cons_succ, cellsV_cons]
      rw [ih i h' x]

/-- A row of values of the call's own, a value of which is written over. -/
theorem own_setV {w1 : World} {B : Nat} {v1 : Value} {l : List V} {e : TypeId} {n : Nat} (ho : OwnV w1 B e v1 l) (hn : l.length = n) (i : Nat) (hi : i < n) :
    ∃ g cap x0 x1 x2, v1 = .slice (some ⟨g, 0, none⟩) n cap ∧ B ≤ g ∧ g < w1.heap.size ∧ w1.cell? ⟨g, i * 3, none⟩ = some x0 ∧ w1.cell? ⟨g, i * 3 + 1, none⟩ = some x1 ∧ w1.cell? ⟨g, i * 3 + 2, none⟩ = some x2 ∧ (∀ j, w1.frozen? ⟨g, j, none⟩ = false) ∧ n ≤ cap ∧ cap ≤ maxLen ∧
      ∀ x : V, OwnV (((w1.setCell ⟨g, i * 3, none⟩ (.int .u8 x.k)).setCell ⟨g, i * 3 + 1, none⟩ (.int .i64 x.n)).setCell ⟨g, i * 3 + 2, none⟩ (.string x.s)) B e v1 (l.set i x) := by
  subst hn
  rcases hh : ho.2 with ⟨_, hz⟩ | ⟨g, cap, cur, e', hb, hg, h3, h4, h5, h6⟩
  · omega
  · subst e'
    have hown : w1.ownsRow B e 3 (.slice (some ⟨g, 0, none⟩) l.length cap) l.length (cellsV l) := ho
    obtain ⟨c0, c1, c2⟩ := cellsV_at l i hi
    have d0 := (hown.cellAt (i * 3) (by omega)).trans c0
    have d1 := (hown.cellAt (i * 3 + 1) (by omega)).trans c1
    have d2 := (hown.cellAt (i * 3 + 2) (by omega)).trans c2
    refine ⟨g, cap, _, _, _, rfl, hb, World.block_lt_of_cell? w1 _ d0, d0, d1, d2, fun j => hown.frozenAt j, h3, h4, fun x => ?_⟩
    have s1 := (hown.stored (i * 3) (.int .u8 x.k)).1
    have s2 := (s1.stored (i * 3 + 1) (.int .i64 x.n)).1
    have s3 := (s2.stored (i * 3 + 2) (.string x.s)).1
    unfold OwnV
    rw [List.length_set, cellsV_set3 l i hi x]
    exact s3
theorem OwnV.setFar {w : World} {B : Nat} {e : TypeId} {v : Value} {l : List V} (h : OwnV w B e v l) {p : Addr} (hp : v.ownBlock ≠ some p.block) (u : Value) : OwnV (w.setCell p u) B e v l :=
  h.kept (row := some p.block) ⟨rfl, rfl, rfl, by simp [World.setCell], fun k _ hne => Below.heap_setCell w p u k (fun e => hne (by rw [e]))⟩ (.inr hp)
end Go.Proofs.Ytcmagjeplofagaa
