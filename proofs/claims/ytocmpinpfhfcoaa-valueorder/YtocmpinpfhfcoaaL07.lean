/-
  The walk of the law ValueCut.
-/
import Derived.Test.YtocmpinpfhfcoaaW9
import Derived.Test.YtocmpinpfhfcoaaOpen
import Derived.Test.YtocmpinpfhfcoaaPure4
namespace Go.Proofs.Ytocmpinpfhfcoaa
open Go.RowKit

/-- A box of a value. -/
def VBox (w : World) (b : Nat) (v : V) : Prop := w.cell? ⟨b, 0, none⟩ = some (.int .u8 v.k) ∧ w.cell? ⟨b, 1, none⟩ = some (.int .i64 v.n) ∧ w.cell? ⟨b, 2, none⟩ = some (.string v.s)
theorem VBox.below {w w' : World} {b : Nat} {v : V} (h : VBox w b v) (hb : Below w.heap.size w w') : VBox w' b v := ⟨cell_below hb h.1, cell_below hb h.2.1, cell_below hb h.2.2⟩
theorem VBox.alloc {w : World} {b : Nat} {v : V} (h : VBox w b v) (o : Obj) : VBox (w.alloc o) b v := ⟨cell_alloc o h.1, cell_alloc o h.2.1, cell_alloc o h.2.2⟩
theorem VBox.lt {w : World} {b : Nat} {v : V} (h : VBox w b v) : b < w.heap.size := World.block_lt_of_cell? w _ h.1

/-- Two values in boxes, behind two slots. -/
def TwoBoxes (w : World) (a b : V) (p q : Value) (wc : World) : Prop :=
  ∃ i j, p = .pointer (some ⟨i, 0, none⟩) ∧ q = .pointer (some ⟨j, 0, none⟩) ∧ VBox wc i a ∧ VBox wc j b ∧ Below w.heap.size w wc

end Go.Proofs.Ytocmpinpfhfcoaa
