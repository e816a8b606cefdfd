/-
  A row of values of the call's own, a number of which is written over; parts of rows of values.
-/
import Derived.Test.YtcmagjeplofagaaMemV
namespace Go.Proofs.Ytcmagjeplofagaa
open Go.RowKit

theorem cellsV_set (l : List V) : ∀ (i : Nat) (h : i < l.length) (x : Int), cellsV (l.set i ⟨l[i].k, x, l[i].s⟩) = (cellsV l).set (i * 3 + 1) (.int .i64 x) := by
  induction l with
  | nil => intro i h; simp at h
  | cons v l ih =>
    intro i h x
    rcases i with _ | i
    · rfl
    · have h' : i < l.length := by simpa using h
      have e : (i + 1) * 3 + 1 = (i * 3 + 1) + 1 + 1 + 1 := by omega
      rw [e]
      simp only [List.set_cons_succ, List.getElem_cons_succ, cellsV_cons]
      rw [ih i h' x]

/-- A row of values of the call's own, a number of which is written over. -/
theorem own_setN {w1 : World} {B : Nat} {v1 : Value} {l : List V} {e : TypeId} (ho : OwnV w1 B e v1 l) (i : Nat) (hi : i < l.length) :
    ∃ g cap, v1 = .slice (some ⟨g, 0, none⟩) l.length cap ∧ B ≤ g ∧ g < w1.heap.size ∧ w1.cell? ⟨g, i * 3 + 1, none⟩ = some (.int .i64 l[i].n) ∧ w1.frozen? ⟨g, i * 3 + 1, none⟩ = false ∧ l.length ≤ cap ∧ cap ≤ maxLen ∧
      ∀ x : Int, SegV (w1.setCell ⟨g, i * 3 + 1, none⟩ (.int .i64 x)) (some ⟨g, 0, none⟩) l.length (l.set i ⟨l[i].k, x, l[i].s⟩) := by
  rcases hh : ho.2 with ⟨_, hz⟩ | ⟨g, cap, cur, e', hb, hg, h3, h4, h5, h6⟩
  · omega
  · subst e'
    have hown : w1.ownsRow B e 3 (.slice (some ⟨g, 0, none⟩) l.length cap) l.length (cellsV l) := ho
    have hc1 : w1.cell? ⟨g, i * 3 + 1, none⟩ = some (.int .i64 l[i].n) := by
      obtain ⟨A9, c9, e9, hs9, _, _⟩ := ho.forms
      injection e9 with e9a
      obtain ⟨g', o', e2, _, h, _⟩ := hs9.at_ (k := i) hi
      rw [← e9a] at e2
      injection e2 with e2
      injection e2 with e3 e4
      subst e3 e4
      rw [Nat.zero_add] at h
      exact h
    refine ⟨g, cap, rfl, hb, World.block_lt_of_cell? w1 _ hc1, hc1, hown.frozenAt _, h3, h4, fun x => ?_⟩
    have hst := (hown.stored (i * 3 + 1) (.int .i64 x)).1
    have h9 : OwnV (w1.setCell ⟨g, i * 3 + 1, none⟩ (.int .i64 x)) B e (.slice (some ⟨g, 0, none⟩) l.length cap) (l.set i ⟨l[i].k, x, l[i].s⟩) := by
      unfold OwnV
      rw [List.length_set, cellsV_set l i hi x]
      exact hst
    obtain ⟨A9, c9, e9, hs9, _, _⟩ := h9.forms
    injection e9 with e9a
    rw [e9a]
    rw [List.length_set] at hs9
    exact hs9

theorem own_setNn {w1 : World} {B : Nat} {v1 : Value} {l : List V} {e : TypeId} {n : Nat} (ho : OwnV w1 B e v1 l) (hn : l.length = n) (i : Nat) (hi : i < n) :
    ∃ g cap y, v1 = .slice (some ⟨g, 0, none⟩) n cap ∧ B ≤ g ∧ g < w1.heap.size ∧ w1.cell? ⟨g, i * 3 + 1, none⟩ = some (.int .i64 y) ∧ w1.frozen? ⟨g, i * 3 + 1, none⟩ = false ∧ n ≤ cap ∧ cap ≤ maxLen ∧
      ∀ x : Int, ∃ l', SegV (w1.setCell ⟨g, i * 3 + 1, none⟩ (.int .i64 x)) (some ⟨g, 0, none⟩) n l' ∧ (x ≠ y → l ≠ l') := by
  subst hn
  obtain ⟨g, cap, h1, h2, h3, h4, h5, h6, h7, h8⟩ := own_setN ho i hi
  refine ⟨g, cap, l[i].n, h1, h2, h3, h4, h5, h6, h7, fun x => ⟨_, h8 x, fun hx e => ?_⟩⟩
  have h9 : (l.set i ⟨l[i].k, x, l[i].s⟩)[i]'(by simpa using hi) = ⟨l[i].k, x, l[i].s⟩ := by simp
  have h10 : l[i] = (l.set i ⟨l[i].k, x, l[i].s⟩)[i]'(by simpa using hi) := by
    congr 1
  rw [h9] at h10
  exact hx (congrArg V.n h10).symm

theorem cellsV_drop (l : List V) : ∀ k, cellsV (l.drop k) = (cellsV l).drop (k * 3) := by
  induction l with
  | nil => intro k; simp [cellsV]
  | cons v l ih =>
    intro k
    rcases k with _ | k
    · simp
    · have e : (k + 1) * 3 = k * 3 + 1 + 1 + 1 := by omega
      rw [List.drop_succ_cons, ih k, e, cellsV_cons]
      rfl
theorem cellsV_take (l : List V) : ∀ k, cellsV (l.take k) = (cellsV l).take (k * 3) := by
  induction l with
  | nil => intro k; simp [cellsV]
  | cons v l ih =>
    intro k
    rcases k with _ | k
    · rfl
    · have e : (k + 1) * 3 = k * 3 + 1 + 1 + 1 := by omega
      rw [List.take_succ_cons, cellsV_cons, cellsV_cons, ih k, e]
      rfl

/-- 's[k:]', as the walk writes it. -/
theorem SegV.from_ {w : World} {g o n : Nat} {l : List V} (h : SegV w (some ⟨g, o, none⟩) n l) (k c : Nat) (hk : k ≤ n) (hc : n ≤ c) :
    SegV w (if c = k then some ⟨g, o, none⟩ else some ⟨g, o + k * 3, none⟩) (n - k) (l.drop k) := by
  refine ⟨by rw [List.length_drop, h.1], fun hn => ?_⟩
  rw [if_neg (by omega)]
  refine ⟨g, o + k * 3, rfl, fun j u hu => ?_⟩
  obtain ⟨g', o', e, hc'⟩ := h.2 (by omega)
  injection e with e
  injection e with e1 e2
  subst e1 e2
  rw [cellsV_drop, List.getElem?_drop] at hu
  have := hc' _ u hu
  rw [← Nat.add_assoc] at this
  exact this
/-- 's[:k]', as the walk writes it. -/
theorem SegV.upto {w : World} {A : Option Addr} {n : Nat} {l : List V} (h : SegV w A n l) (k : Nat) (hk : k ≤ n) : SegV w A k (l.take k) := by
  refine ⟨by rw [List.length_take, h.1]; omega, fun hn => ?_⟩
  obtain ⟨g, o, e, hc⟩ := h.2 (by omega)
  exact ⟨g, o, e, fun j u hu => hc j u (by
    rw [cellsV_take, List.getElem?_take] at hu
    split at hu
    · exact hu
    · cases hu)⟩
end Go.Proofs.Ytcmagjeplofagaa
