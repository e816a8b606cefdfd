/-
  A whole array of words or bytes read or written by one operation: the steps of a walk.
-/
import Derived.Test.YtaanaoimnecenaaDoorMemU
import Derived.Deep.DeepCutAuto
import Derived.Deep.WholeRow
namespace Go.Proofs.YtaanaoimnecenaaDoor
open Go.RowKit

/-- What the program's table says of a type of arrays. -/
structure ArrT (P : Program) (t : TypeId) (n : Nat) (e : TypeId) : Prop where
  hu : ∀ w, (isAgg t).run P w = .ok true w
  hi : (P.info? t).map (·.size) = some n
theorem agg_arr {P : Program} {t : TypeId} {n : Nat} {e : TypeId} (h : P.underlying t = some (.array n e)) : ∀ w, (isAgg t).run P w = .ok true w := fun w => by
  simp [isAgg, run_underlying h]
theorem agg_struct {P : Program} {t : TypeId} {fs : Array Field} (h : P.underlying t = some (.struct fs)) : ∀ w, (isAgg t).run P w = .ok true w := fun w => by
  simp [isAgg, run_underlying h]

section
variable {P : Program}
theorem run_storeCells_newAt (w : World) (t : TypeId) (c : Array Value) (L : List (BitVec 32)) (g : Nat) (hg : g = w.heap.size) (hi : (P.info? t).map (·.size) = some L.length) (ho : c.size = L.length) :
    (storeCells ⟨g, 0, none⟩ (cellsU L).toArray.toList 0).run P (w.alloc (.cells c t)) = .ok () (w.alloc (.cells (cellsU L).toArray t)) := by
  subst hg
  refine run_storeCells_new w t c _ (by rw [List.size_toArray, cellsU_length]; exact hi) (by rw [ho]; simp [cellsU_length]) ?_
  rw [Array.all_eq_true_iff_forall_mem]
  intro x hx
  exact cellsU_one _ _ (by simpa using hx)
theorem run_storeCells_vals (w : World) (t : TypeId) (c cs : Array Value) (n g : Nat) (hg : g = w.heap.size) (hi : (P.info? t).map (·.size) = some n) (h1 : c.size = n) (h2 : cs.size = n) (h3 : cs.all (·.oneCell') = true) :
    (storeCells ⟨g, 0, none⟩ cs.toList 0).run P (w.alloc (.cells c t)) = .ok () (w.alloc (.cells cs t)) := by
  subst hg
  exact run_storeCells_new w t c cs (by rw [h2]; exact hi) (by rw [h1, h2]) h3
theorem run_load_arr (w : World) (t e : TypeId) (n : Nat) (hT : ArrT P t n e) (g o : Nat) (cs : Array Value) (h : (loadCellsFrom ⟨g, o, none⟩ 0 n #[]).run P w = .ok cs w) :
    (Instr.loadAt t (.pointer (some ⟨g, o, none⟩))).run P w = .ok (.agg cs) w := by
  obtain ⟨i, hi, hs⟩ := Option.map_eq_some_iff.1 hT.hi
  simp [Instr.loadAt, Instr.sureAddr, loadVar, hT.hu, sizeOf, typeInfo, hi, hs, loadCells, h]
theorem run_store_arr (w w' : World) (t e : TypeId) (n : Nat) (hT : ArrT P t n e) (g o : Nat) (cs : Array Value) (hn : cs.size = n) (h : (storeCells ⟨g, o, none⟩ cs.toList 0).run P w = .ok () w') :
    (Instr.storeAt t (.pointer (some ⟨g, o, none⟩)) (.agg cs)).run P w = .ok () w' := by
  obtain ⟨i, hi, hs⟩ := Option.map_eq_some_iff.1 hT.hi
  simp [Instr.storeAt, Instr.sureAddr, storeVar, sizeOf, typeInfo, hi, hs, Value.cells, hn, h]

theorem wpList_load_arr (w : World) {ops : Array Oper} {rest : List Oper} {o : Oper} {a : Act} {Q : Exit → Act → World → Prop} (hgd : o.guard = none) (p : Operand) (t e : TypeId) (n : Nat) (hT : ArrT P t n e)
    (ho : o.op = .load t p) (g off : Nat) (hp : a.eval p = .pointer (some ⟨g, off, none⟩)) (cs : Array Value) (hl : (loadCellsFrom ⟨g, off, none⟩ 0 n #[]).run P w = .ok cs w)
    (h : wpList P ops Q rest (a.put o.dst (.agg cs)) w) : wpList P ops Q (o :: rest) a w :=
  wpList_plain hgd fun _ hK => by
    unfold Oper.wp execOp
    simp only [ho, hp, run_load_arr w t e n hT g off cs hl, Sem.run_bind, Sem.run_pure, Result.andThen_ok]
    exact hK _ _ h

theorem wpList_store_arr (w w' : World) {ops : Array Oper} {rest : List Oper} {o : Oper} {a : Act} {Q : Exit → Act → World → Prop} (hgd : o.guard = none) (p x : Operand) (t e : TypeId) (n : Nat) (hT : ArrT P t n e)
    (ho : o.op = .store t p x) (g off : Nat) (hp : a.eval p = .pointer (some ⟨g, off, none⟩)) (cs : Array Value) (hx : a.eval x = .agg cs) (hn : cs.size = n) (hs : (storeCells ⟨g, off, none⟩ cs.toList 0).run P w = .ok () w')
    (h : wpList P ops Q rest (a.put o.dst undef) w') : wpList P ops Q (o :: rest) a w :=
  wpList_plain hgd fun _ hK => by
    unfold Oper.wp execOp
    simp only [ho, hp, hx, run_store_arr w w' t e n hT g off cs hn hs, Sem.run_bind, Sem.run_pure, Result.andThen_ok]
    exact hK _ _ h
/-- The result lies in an array. -/
theorem results_arr (w : World) {fn : Func} {p : Tmp} {t e : TypeId} {n : Nat} (hr : fn.results = #[.cell p t]) (tmps : Array Value) (hT : ArrT P t n e) (g off : Nat) (hp : tmps.getD p undef = .pointer (some ⟨g, off, none⟩)) (cs : Array Value)
    (hl : (loadCellsFrom ⟨g, off, none⟩ 0 n #[]).run P w = .ok cs w) : (results fn tmps).run P w = .ok (.agg cs) w := by
  obtain ⟨i, hi, hs⟩ := Option.map_eq_some_iff.1 hT.hi
  have hp' : tmps[p]?.getD undef = .pointer (some ⟨g, off, none⟩) := by rw [← hp]; simp
  simp only [results, hr]
  simp [Sem.run_bind, Result.andThen, hp', asAddr, loadVar, hT.hu, sizeOf, typeInfo, hi, hs, loadCells, hl]
end

end Go.Proofs.YtaanaoimnecenaaDoor
