/-
  Arrays of words and of bytes in memory: what their cells hold, what a store turns, what is read out of them whole.
-/
import Derived.Test.YtaanaoimnecenaaDoorMem
import Derived.Test.YtaanaoimnecenaaDoorPureS
import Derived.Laws.Cells
import Derived.Laws.IdiomCopy
namespace Go.Proofs.YtaanaoimnecenaaDoor
open Go.RowKit

def cellsU (L : List (BitVec 32)) : List Value := L.map fun x => Value.int .u32 (U x)
theorem cellsU_length (L : List (BitVec 32)) : (cellsU L).length = L.length := by simp [cellsU]
theorem cellsU_at (L : List (BitVec 32)) (j : Nat) : (cellsU L)[j]? = L[j]?.map fun x => Value.int .u32 (U x) := by simp [cellsU]

/-- Words one behind the other, from cell 'o' of block 'g' on; none of them frozen. -/
def ArU (w : World) (g o : Nat) (L : List (BitVec 32)) : Prop :=
  (∀ j, j < L.length → w.cell? ⟨g, o + j, none⟩ = some (.int .u32 (U (L.getD j 0)))) ∧ ∀ j, j < L.length → w.frozen? ⟨g, o + j, none⟩ = false
/-- Bytes likewise. -/
def ArB (w : World) (g o : Nat) (l : List UInt8) : Prop :=
  (∀ j, j < l.length → w.cell? ⟨g, o + j, none⟩ = some (.int .u8 ((l.getD j 0).toNat : Int))) ∧ ∀ j, j < l.length → w.frozen? ⟨g, o + j, none⟩ = false

section
variable {w w' : World} {g o : Nat} {L : List (BitVec 32)} {l : List UInt8}
theorem ArU.below (h : ArU w g o L) (hb : Below w.heap.size w w') : ArU w' g o L :=
  ⟨fun j hj => cell_below hb (h.1 j hj), fun j hj => by
    rw [hb.frozen (p := ⟨g, o + j, none⟩) (World.block_lt_of_cell? w _ (h.1 j hj))]; exact h.2 j hj⟩
theorem ArB.below (h : ArB w g o l) (hb : Below w.heap.size w w') : ArB w' g o l :=
  ⟨fun j hj => cell_below hb (h.1 j hj), fun j hj => by
    rw [hb.frozen (p := ⟨g, o + j, none⟩) (World.block_lt_of_cell? w _ (h.1 j hj))]; exact h.2 j hj⟩
theorem ArU.keep (h : ArU w g o L) (hc : ∀ j, w'.cell? ⟨g, j, none⟩ = w.cell? ⟨g, j, none⟩) (hf : ∀ j, w'.frozen? ⟨g, j, none⟩ = w.frozen? ⟨g, j, none⟩) : ArU w' g o L :=
  ⟨fun j hj => (hc _).trans (h.1 j hj), fun j hj => (hf _).trans (h.2 j hj)⟩
theorem ArB.keep (h : ArB w g o l) (hc : ∀ j, w'.cell? ⟨g, j, none⟩ = w.cell? ⟨g, j, none⟩) (hf : ∀ j, w'.frozen? ⟨g, j, none⟩ = w.frozen? ⟨g, j, none⟩) : ArB w' g o l :=
  ⟨fun j hj => (hc _).trans (h.1 j hj), fun j hj => (hf _).trans (h.2 j hj)⟩
theorem ArU.drewN (h : ArU w g o L) (k : Nat) : ArU (w.drewN k) g o L := h
theorem ArB.drewN (h : ArB w g o l) (k : Nat) : ArB (w.drewN k) g o l := h
theorem ArU.drew (h : ArU w g o L) : ArU w.drew g o L := h
theorem ArB.drew (h : ArB w g o l) : ArB w.drew g o l := h
/-- A store into it. -/
theorem ArU.set (h : ArU w g o L) (k : Nat) (hk : k < L.length) (x : BitVec 32) : ArU (w.setCell ⟨g, o + k, none⟩ (.int .u32 (U x))) g o (L.set k x) := by
  refine ⟨fun j hj => ?_, fun j hj => ?_⟩
  · rw [List.length_set] at hj
    by_cases e : k = j
    · subst e
      rw [World.cell?_setCell_same _ _ _ (h.1 k hk)]
      simp [List.getD_eq_getElem?_getD, hk]
    · rw [World.cell?_setCell_other _ _ _ _ (by intro e'; injection e' with _ e'; omega), h.1 j hj]
      simp [List.getD_eq_getElem?_getD, e]
  · rw [World.frozen?_setCell]
    exact h.2 j (by simpa using hj)
theorem ArB.set (h : ArB w g o l) (k : Nat) (hk : k < l.length) (x : UInt8) (y : Int) (hy : y = (x.toNat : Int)) : ArB (w.setCell ⟨g, o + k, none⟩ (.int .u8 y)) g o (l.set k x) := by
  subst hy
  refine ⟨fun j hj => ?_, fun j hj => ?_⟩
  · rw [List.length_set] at hj
    by_cases e : k = j
    · subst e
      rw [World.cell?_setCell_same _ _ _ (h.1 k hk)]
      simp [List.getD_eq_getElem?_getD, hk]
    · rw [World.cell?_setCell_other _ _ _ _ (by intro e'; injection e' with _ e'; omega), h.1 j hj]
      simp [List.getD_eq_getElem?_getD, e]
  · rw [World.frozen?_setCell]
    exact h.2 j (by simpa using hj)
/-- A store elsewhere. -/
theorem ArU.other (h : ArU w g o L) (p : Addr) (v : Value) (hp : p.block ≠ g ∨ p.off < o ∨ o + L.length ≤ p.off) : ArU (w.setCell p v) g o L := by
  refine ⟨fun j hj => ?_, fun j hj => by rw [World.frozen?_setCell]; exact h.2 j hj⟩
  rw [World.cell?_setCell_other _ _ _ _ (by rintro rfl; simp at hp; omega)]
  exact h.1 j hj
theorem ArB.other (h : ArB w g o l) (p : Addr) (v : Value) (hp : p.block ≠ g ∨ p.off < o ∨ o + l.length ≤ p.off) : ArB (w.setCell p v) g o l := by
  refine ⟨fun j hj => ?_, fun j hj => by rw [World.frozen?_setCell]; exact h.2 j hj⟩
  rw [World.cell?_setCell_other _ _ _ _ (by rintro rfl; simp at hp; omega)]
  exact h.1 j hj
/-- A new block. -/
theorem ArU.new (w : World) (L : List (BitVec 32)) (t : TypeId) (cs : Array Value) (b : Nat) (hb : b = w.heap.size) (hcs : cs = (cellsU L).toArray) : ArU (w.alloc (.cells cs t)) b 0 L := by
  subst hb hcs
  refine ⟨fun j hj => ?_, fun j hj => by simp⟩
  rw [cell_of_row _ w.heap.size _ _ _ (0, 0) (heap_alloc_new w _)]
  simp [cellsU_at, List.getD_eq_getElem?_getD, hj]
theorem ArB.new (w : World) (l : List UInt8) (t : TypeId) (cs : Array Value) (b : Nat) (hb : b = w.heap.size) (hcs : cs = (cellsB l).toArray) : ArB (w.alloc (.cells cs t)) b 0 l := by
  subst hb hcs
  refine ⟨fun j hj => ?_, fun j hj => by simp⟩
  rw [cell_of_row _ w.heap.size _ _ _ (0, 0) (heap_alloc_new w _)]
  simp [cellsB_at, List.getD_eq_getElem?_getD, hj]
theorem ArU.alloc (h : ArU w g o L) (ob : Obj) : ArU (w.alloc ob) g o L := h.below ((Below.refl _ _).alloc (Nat.le_refl _) _)
theorem ArB.alloc (h : ArB w g o l) (ob : Obj) : ArB (w.alloc ob) g o l := h.below ((Below.refl _ _).alloc (Nat.le_refl _) _)

variable {P : Program}
theorem add_off (g o j : Nat) : (⟨g, o, none⟩ : Addr).add j = ⟨g, o + j, none⟩ := by
  unfold Addr.add
  split
  · rename_i h; simp_all
  · rfl
/-- Read out whole. -/
theorem ArU.load (h : ArU w g o L) (n : Nat) (hn : L.length = n) : (loadCellsFrom ⟨g, o, none⟩ 0 n #[]).run P w = .ok (cellsU L).toArray w := by
  have := run_loadCells_list (P := P) w ⟨g, o, none⟩ (cellsU L) (fun j v hv => by
    rw [cellsU_at] at hv
    obtain ⟨x, hx, rfl⟩ := Option.map_eq_some_iff.1 hv
    have hj := (List.getElem?_eq_some_iff.1 hx).1
    rw [add_off, h.1 j hj, List.getD_eq_getElem?_getD, hx]
    rfl)
  rw [cellsU_length, hn] at this
  exact this
theorem ArB.load (h : ArB w g o l) (n : Nat) (hn : l.length = n) : (loadCellsFrom ⟨g, o, none⟩ 0 n #[]).run P w = .ok (cellsB l).toArray w := by
  have := run_loadCells_list (P := P) w ⟨g, o, none⟩ (cellsB l) (fun j v hv => by
    rw [cellsB_at] at hv
    obtain ⟨x, hx, rfl⟩ := Option.map_eq_some_iff.1 hv
    have hj := (List.getElem?_eq_some_iff.1 hx).1
    rw [add_off, h.1 j hj, List.getD_eq_getElem?_getD, hx]
    rfl)
  rw [cellsB_length, hn] at this
  exact this
theorem cellsU_one (L : List (BitVec 32)) : ∀ u ∈ cellsU L, u.oneCell' = true := by
  intro u hu
  simp only [cellsU, List.mem_map] at hu
  obtain ⟨b, _, rfl⟩ := hu
  rfl
/-- Written whole. -/
theorem ArU.store {L0 : List (BitVec 32)} (h : ArU w g o L0) (hl : L.length ≤ L0.length) : (storeCells ⟨g, o, none⟩ (cellsU L) 0).run P w = .ok () (w.setCells g o (cellsU L)) := by
  have := run_storeCells_cells (P := P) g o (cellsU L) 0 w (fun j hj => by
    rw [cellsU_length] at hj
    have := h.1 j (by omega)
    simp [this]) (fun j hj => by
    rw [cellsU_length] at hj
    exact h.2 j (by omega)) (cellsU_one L)
  exact this
theorem ArU.stored {L0 : List (BitVec 32)} (h : ArU w g o L0) (hl : L.length ≤ L0.length) : ArU (w.setCells g o (cellsU L)) g o L := by
  refine ⟨fun j hj => ?_, fun j hj => ?_⟩
  · rw [World.cell?_setCells_in g (cellsU L) o w (fun i hi => by
      rw [cellsU_length] at hi
      have := h.1 i (by omega)
      simp [this]) j (by rw [cellsU_length]; exact hj), List.getD_eq_getElem?_getD, List.getElem?_eq_getElem hj]
    simp [cellsU]
  · rw [World.frozen?_setCells]
    exact h.2 j (by omega)
theorem heap_setCells (g : Nat) (k : Nat) (hk : k ≠ g) : ∀ (vs : List Value) (o : Nat) (w : World), (w.setCells g o vs).heap[k]? = w.heap[k]?
  | [], _, _ => rfl
  | v :: r, o, w => by
    rw [World.setCells, heap_setCells g k hk r, Below.heap_setCell _ _ _ _ hk]
theorem size_setCells (g : Nat) : ∀ (vs : List Value) (o : Nat) (w : World), (w.setCells g o vs).heap.size = w.heap.size
  | [], _, _ => rfl
  | v :: r, o, w => by rw [World.setCells, size_setCells g r, World.size_setCell]
theorem Below.setCells {B : Nat} {a : World} (g : Nat) (hg : B ≤ g) : ∀ (vs : List Value) (o : Nat) (w : World), Below B a w → Below B a (w.setCells g o vs)
  | [], _, _, h => h
  | v :: r, o, w, h => by
    rw [World.setCells]
    exact Below.setCells g hg r _ _ (h.setCell hg v)
end

end Go.Proofs.YtaanaoimnecenaaDoor
