/-
  Rows of bytes that may be written over ('Wr'), whatever else is in memory.
-/
import Derived.Test.YtandlkflnfiikaaDK1
namespace Go.Proofs.Ytandlkflnfiikaa
open Go.RowKit

/-- A row that may be written over: n cells at a block from lo on, below hi. -/
def Wr (w : World) (lo hi : Nat) (A : Option Addr) (n : Nat) : Prop :=
  0 < n → ∃ gx, A = some ⟨gx, 0, none⟩ ∧ lo ≤ gx ∧ gx < hi ∧ ∀ j, j < n → (∃ b : Int, w.cell? ⟨gx, j, none⟩ = some (.int .u8 b)) ∧ w.frozen? ⟨gx, j, none⟩ = false
theorem own_wr {w : World} {base : Nat} {e : TypeId} {A : Option Addr} {n c : Nat} {l : List UInt8} (h : Own w base e (.slice A n c) l) : Wr w base w.heap.size A n := by
  intro hn
  obtain ⟨A', c', hv, hs, _, _⟩ := h.forms
  injection hv with hA hln hc
  subst hA
  have hlt := h.lt
  rcases h.2 with ⟨hx, _⟩ | ⟨g', cap, cur, hx, hbb, hg, _, _, _, _⟩
  · injection hx with hA2 hn2 _
    omega
  · injection hx with hA2 _ _
    subst hA2
    refine ⟨g', rfl, hbb, (hlt g' rfl).2, fun j hj => ⟨?_, ?_⟩⟩
    · have := hs.cell rfl (k := j) (by omega)
      rw [Nat.zero_add] at this
      exact ⟨_, this⟩
    · simp [World.frozen?, hg]
theorem Wr.only {w w' : World} {S : Nat → Prop} {lo hi : Nat} {A : Option Addr} {n : Nat} (h : Wr w lo hi A n) (hw : Only w w' S) (hS : ∀ k, lo ≤ k → k < hi → ¬ S k) : Wr w' lo hi A n := by
  intro hn
  obtain ⟨gx, e, h1, h2, hj⟩ := h hn
  refine ⟨gx, e, h1, h2, fun j hl => ?_⟩
  obtain ⟨⟨b, hb⟩, hf⟩ := hj j hl
  exact ⟨⟨b, hw.cell hb (hS gx h1 h2)⟩, (hw.froz hb (hS gx h1 h2) ⟨gx, j, none⟩ rfl).trans hf⟩
theorem Wr.below {w w' : World} {lo hi : Nat} {A : Option Addr} {n : Nat} (h : Wr w lo hi A n) (hb : Below w.heap.size w w') : Wr w' lo hi A n := h.only (Only.of_below (S := fun _ => False) hb) fun _ _ _ => id
theorem Wr.set {w : World} {lo hi gx : Nat} {n j : Nat} (h : Wr w lo hi (some ⟨gx, 0, none⟩) n) (b : Int) : Wr (w.setCell ⟨gx, j, none⟩ (.int .u8 b)) lo hi (some ⟨gx, 0, none⟩) n := by
  intro hn
  obtain ⟨g', e, h1, h2, hj⟩ := h hn
  injection e with e
  injection e with e
  subst e
  refine ⟨gx, rfl, h1, h2, fun i hi => ?_⟩
  obtain ⟨⟨x, hx⟩, hf⟩ := hj i hi
  refine ⟨?_, by rw [World.frozen?_setCell]; exact hf⟩
  by_cases hij : j = i
  · subst hij
    exact ⟨b, World.cell?_setCell_same _ _ _ hx⟩
  · have hne : (⟨gx, j, none⟩ : Addr) ≠ ⟨gx, i, none⟩ := fun e => hij (by injection e)
    exact ⟨x, (World.cell?_setCell_other (h := hne) ..).trans hx⟩
theorem only_set (w : World) (g j : Nat) (v : Value) : Only w (w.setCell ⟨g, j, none⟩ v) (fun k => k = g) := (Only.refl w (fun k => k = g)).setCell ⟨g, j, none⟩ v fun _ => rfl

end Go.Proofs.Ytandlkflnfiikaa
