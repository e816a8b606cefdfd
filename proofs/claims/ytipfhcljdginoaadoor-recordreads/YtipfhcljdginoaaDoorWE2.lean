/-
  errors.As and errors.Is at the reader's own error, walked.
-/
import Derived.Test.YtipfhcljdginoaaDoorWE1
namespace Go.Proofs.YtipfhcljdginoaaDoor
open Go.RowKit Go.Extern.Stop Go.Stop Go.Extern

/-- (Value).Set: the variable of two cells gets what the Value's own one holds. -/
theorem emSet (q b : Nat) (x y o1 o2 : Value) (W : World) (hx : x.oneCell' = true) (hy : y.oneCell' = true) (h0 : W.cell? ⟨b, 0, none⟩ = some x) (h1 : W.cell? ⟨b, 1, none⟩ = some y)
    (ht0 : W.cell? ⟨q, 0, none⟩ = some o1) (ht1 : W.cell? ⟨q, 1, none⟩ = some o2) (hf0 : W.frozen? ⟨q, 0, none⟩ = false) (hf1 : W.frozen? ⟨q, 1, none⟩ = false) :
    (ReflectliteValue.set #[.agg #[.pointer (some ⟨1, 73, none⟩), .pointer (some ⟨q, 0, none⟩), .int .u64 409], .agg #[.pointer (some ⟨1, 73, none⟩), .pointer (some ⟨b, 0, none⟩), .int .u64 153]]).run Tryd.prog W
      = .ok (.tuple #[]) ((W.setCell ⟨q, 0, none⟩ x).setCell ⟨q, 1, none⟩ y) := by
  refine Eq.trans (congrArg (fun s : Sem Value => s.run Tryd.prog W) (show ReflectliteValue.set #[.agg #[.pointer (some ⟨1, 73, none⟩), .pointer (some ⟨q, 0, none⟩), .int .u64 409], .agg #[.pointer (some ⟨1, 73, none⟩), .pointer (some ⟨b, 0, none⟩), .int .u64 153]] = (ReflectliteValue.parts (.agg #[.pointer (some ⟨1, 73, none⟩), .pointer (some ⟨q, 0, none⟩), .int .u64 409]) >>= fun a => ReflectliteValue.parts (.agg #[.pointer (some ⟨1, 73, none⟩), .pointer (some ⟨b, 0, none⟩), .int .u64 153]) >>= _) from rfl)) ?_
  simp only [Sem.run_bind, emPartsA, emPartsS, Result.andThen]
  simp [ReflectliteValue.flagAddr, loadVar, loadCells, loadCellsFrom, Addr.add, h0, h1, Result.andThen, emDirect, storeVar, Value.cells, storeCells]
  rw [run_store Tryd.prog W _ x _ hx, ht0, hf0]
  simp only [Bool.false_eq_true, if_false]
  have hne : (⟨q, 0, none⟩ : Addr) ≠ ⟨q, 1, none⟩ := by simp
  rw [run_store Tryd.prog _ _ y _ hy, World.cell?_setCell_other (h := hne), ht1, World.frozen?_setCell, hf1]
  simp

theorem alloc_frozen {w : World} {a : Addr} (o : Obj) (h : a.block < w.heap.size) : (w.alloc o).frozen? a = w.frozen? a := World.frozen?_alloc_old _ _ a (Nat.ne_of_lt h)
theorem below_setCell {B : Nat} {a w : World} (h : Below B a w) {p : Addr} (hp : B ≤ p.block) (v : Value) : Below B a (w.setCell p v) :=
  ⟨h.os, h.tape, h.output, by have := h.size; simp [World.setCell]; omega, fun k hk => (Below.heap_setCell w p v k (by omega)).trans (h.block k hk)⟩

set_option maxHeartbeats 4000000 in
/-- errors.As(met, &m). -/
theorem as_met (at_ x : Int) (q : Nat) (o1 o2 : Value) (w : World) (hg : Ety w) (h0 : w.cell? ⟨q, 0, none⟩ = some o1) (h1 : w.cell? ⟨q, 1, none⟩ = some o2) (f0 : w.frozen? ⟨q, 0, none⟩ = false) (f1 : w.frozen? ⟨q, 1, none⟩ = false) :
    Calls Tryd.prog 33 #[metV at_ x, .iface 75 (.pointer (some ⟨q, 0, none⟩))] w fun e w' => e = .returned (.bool true) ∧ w'.cell? ⟨q, 0, none⟩ = some (.int .i64 at_) ∧ Below q w w' := by
  have hlt : q < w.heap.size := World.block_lt_of_cell? w _ h0
  have hV := @run_callFunc_extern Tryd.prog 40 _ (fun args => ReflectliteValue.unpack (args.getD 0 (.tuple #[]))) Tryd.func40 (by kernel_rfl) (by kernel_rfl) (by kernel_rfl) (by kernel_rfl)
  have hT := @run_callFunc_extern Tryd.prog 41 _ (ReflectliteValue.methodAny (ReflectliteValue.valueError "reflectlite.Value.Type" 0) (fun t _ _ _ => ReflectliteType.toType t)) Tryd.func41 (by kernel_rfl) (by kernel_rfl) (by kernel_rfl) (by kernel_rfl)
  have hN := @run_callFunc_extern Tryd.prog 42 _ (ReflectliteValue.method (ReflectliteValue.valueError "reflectlite.Value.IsNil" 0) ReflectliteValue.isNil) Tryd.func42 (by kernel_rfl) (by kernel_rfl) (by kernel_rfl) (by kernel_rfl)
  have hK := @run_callFunc_extern Tryd.prog 65 _ (ReflectliteType.abiMethod fun t => do pure (.int .u8 (← Rtype.kind t))) Tryd.func65 (by kernel_rfl) (by kernel_rfl) (by kernel_rfl) (by kernel_rfl)
  have hE := @run_callFunc_extern Tryd.prog 77 _ (ReflectliteType.method ReflectliteType.elem) Tryd.func77 (by kernel_rfl) (by kernel_rfl) (by kernel_rfl) (by kernel_rfl)
  have hI := @run_callFunc_extern Tryd.prog 78 _ (ReflectliteType.relation "Implements" ReflectliteType.implements_) Tryd.func78 (by kernel_rfl) (by kernel_rfl) (by kernel_rfl) (by kernel_rfl)
  have hO := @run_callFunc_extern Tryd.prog 44 _ ReflectliteType.typeOf Tryd.func44 (by kernel_rfl) (by kernel_rfl) (by kernel_rfl) (by kernel_rfl)
  have hA := @run_callFunc_extern Tryd.prog 75 _ (ReflectliteType.relation "AssignableTo" ReflectliteType.assignableTo) Tryd.func75 (by kernel_rfl) (by kernel_rfl) (by kernel_rfl) (by kernel_rfl)
  have hL := @run_callFunc_extern Tryd.prog 48 _ (ReflectliteValue.method (ReflectliteValue.valueError "reflectlite.Value.Elem" 0) ReflectliteValue.elem) Tryd.func48 (by kernel_rfl) (by kernel_rfl) (by kernel_rfl) (by kernel_rfl)
  have hS := @run_callFunc_extern Tryd.prog 49 _ ReflectliteValue.set Tryd.func49 (by kernel_rfl) (by kernel_rfl) (by kernel_rfl) (by kernel_rfl)
  have tO := emTypeOf
  have mA := emMethodAssignableTo
  have aS := emAssignable
  have vS := emValueOfS
  have vP := emValueOfP
  have tP := emType
  have mK := emMethodKind
  have mE := emMethodElem
  have mI := emMethodImplements
  have kP := emKindP
  have kS := emKindS
  have eT := emElemT
  have iS := emImplements
  let O1 : Obj := .cells #[.pointer (some ⟨q, 0, none⟩)] 75
  let O2 : Obj := .cells #[.pointer (some ⟨1, 75, none⟩), .pointer (some ⟨w.heap.size, 0, none⟩), .int .u64 150] 85
  let O3 : Obj := .cells #[.int .i64 at_, .iface 30 (.int .i64 x)] 73
  have n8 := emIsNil ⟨w.heap.size, 0, none⟩ ⟨q, 0, none⟩ ((w.alloc O1).alloc O2) (by simp [O1, O2])
  have hg2 : ((w.alloc O1).alloc O2).cell? ⟨0, 0, none⟩ = some (.iface 101 (.agg #[.pointer (some ⟨1, 56, none⟩)])) := cell_alloc _ (cell_alloc _ hg)
  have el := emElemV ⟨w.heap.size, 0, none⟩ ⟨q, 0, none⟩ (((w.alloc O1).alloc O2).alloc O2) (by rw [World.cell?_alloc_lt _ _ ⟨w.heap.size, 0, none⟩ (by simp; omega)]; simp [O1, O2])
  have st := emSet q (w.heap.size + 1 + 1 + 1) (.int .i64 at_) (.iface 30 (.int .i64 x)) o1 o2 ((((w.alloc O1).alloc O2).alloc O2).alloc O3) rfl rfl
    (by rw [World.cell?_alloc_at _ _ _ _ (by simp)]; rfl) (by rw [World.cell?_alloc_at _ _ _ _ (by simp)]; rfl)
    (cell_alloc _ (cell_alloc _ (cell_alloc _ (cell_alloc _ h0)))) (cell_alloc _ (cell_alloc _ (cell_alloc _ (cell_alloc _ h1))))
    (by rw [alloc_frozen _ (by simp; omega), alloc_frozen _ (by simp; omega), alloc_frozen _ (by simp; omega), alloc_frozen _ hlt]; exact f0)
    (by rw [alloc_frozen _ (by simp; omega), alloc_frozen _ (by simp; omega), alloc_frozen _ (by simp; omega), alloc_frozen _ hlt]; exact f1)
  have HG := Lib.hid hg
  have H0 := Lib.hid h0
  have H1 := Lib.hid h1
  clear hg h0 h1
  unfold metV
  simp only [O1, O2, O3] at n8 hg2 el st
  clear_value O1 O2 O3
  go_enter Tryd.func33, Tryd.ntmps33
  go_wp2
  refine wp_loop_rounds 1 ?_
  rw [rounds_succ]
  go_wp2
  go_ret
  refine ⟨rfl, ?_, ?_⟩
  · have hne : (⟨q, 1, none⟩ : Addr) ≠ ⟨q, 0, none⟩ := by simp
    rw [World.cell?_setCell_other (h := hne), World.cell?_setCell_same (h := cell_alloc _ (cell_alloc _ (cell_alloc _ (cell_alloc _ H0.out))))]
  · have a1 : ∀ {W : World} (o : Obj), Below q w W → q ≤ W.heap.size → Below q w (W.alloc o) ∧ q ≤ (W.alloc o).heap.size := fun o h hq => ⟨h.alloc hq o, by simp; omega⟩
    have b0 := a1 (.cells #[.pointer (some ⟨q, 0, none⟩)] 75) (Below.refl q w) (by omega)
    have b1 := a1 (.cells #[.pointer (some ⟨1, 75, none⟩), .pointer (some ⟨w.heap.size, 0, none⟩), .int .u64 150] 85) b0.1 b0.2
    have b2 := a1 (.cells #[.pointer (some ⟨1, 75, none⟩), .pointer (some ⟨w.heap.size, 0, none⟩), .int .u64 150] 85) b1.1 b1.2
    have b3 := a1 (.cells #[.int .i64 at_, .iface 30 (.int .i64 x)] 73) b2.1 b2.2
    exact below_setCell (below_setCell b3.1 (Nat.le_refl _) _) (Nat.le_refl _) _

theorem emTypeOfE (v : Value) (w : World) : (ReflectliteType.typeOf #[.iface 30 v]).run Tryd.prog w = .ok (.iface 101 (.agg #[.pointer (some ⟨1, 30, none⟩)])) w := by kernel_rfl
/-- The model's own entry for (rtype).Comparable, by its place in the model's table. -/
def comparableE : Array Value → Sem Value := ((ReflectliteType.rows.find? fun r => r.1 == "(internal/reflectlite.rtype).Comparable").map (·.2)).getD fun _ => pure (.bool false)
theorem emComparable (w : World) : (comparableE #[.agg #[.pointer (some ⟨1, 30, none⟩)]]).run Tryd.prog w = .ok (.bool true) w := by kernel_rfl
theorem emMethodComparable (v : Value) (w : World) : (Go.method 246 101 v "Comparable").run Tryd.prog w = .ok (76, v) w := by kernel_rfl
theorem emNoIsM (v : Value) (xT : TypeId) (w : World) : (Instr.typeAssert (.iface 73 v) xT 113 true).run Tryd.prog w = .ok (.tuple #[.nilIface, .bool false]) w := run_typeAssert_lacksB Tryd.underlying113 (by kernel_rfl) (by kernel_rfl) v xT w
theorem emHasUnwrapM (v : Value) (xT : TypeId) (w : World) : (Instr.typeAssert (.iface 73 v) xT 108 true).run Tryd.prog w = .ok (.tuple #[.iface 73 v, .bool true]) w := run_typeAssert_hasB Tryd.underlying108 (by kernel_rfl) v xT w
theorem emNoIsE (v : Value) (xT : TypeId) (w : World) : (Instr.typeAssert (.iface 30 v) xT 113 true).run Tryd.prog w = .ok (.tuple #[.nilIface, .bool false]) w := run_typeAssert_lacksB Tryd.underlying113 (by kernel_rfl) (by kernel_rfl) v xT w
theorem emNoUnwrapE (v : Value) (xT : TypeId) (w : World) : (Instr.typeAssert (.iface 30 v) xT 108 true).run Tryd.prog w = .ok (.tuple #[.nilIface, .bool false]) w := run_typeAssert_lacksB Tryd.underlying108 (by kernel_rfl) (by kernel_rfl) v xT w
theorem emNoUnwrapsE (v : Value) (xT : TypeId) (w : World) : (Instr.typeAssert (.iface 30 v) xT 110 true).run Tryd.prog w = .ok (.tuple #[.nilIface, .bool false]) w := run_typeAssert_lacksB Tryd.underlying110 (by kernel_rfl) (by kernel_rfl) v xT w
theorem emMethodUnwrap (v : Value) (w : World) : (Go.method 246 73 v "Unwrap").run Tryd.prog w = .ok (70, v) w := by kernel_rfl

set_option maxHeartbeats 4000000 in
/-- (met).Unwrap. -/
theorem unwrap_any (at_ x : Int) (w : World) : Calls Tryd.prog 70 #[.agg #[.int .i64 at_, .iface 30 (.int .i64 x)]] w fun e w' => e = .returned (.iface 30 (.int .i64 x)) ∧ Below w.heap.size w w' := by
  go_enter Tryd.func70, Tryd.ntmps70
  go_wp2
  go_ret
  exact ⟨rfl, (Below.refl _ _).alloc (Nat.le_refl _) _⟩

set_option maxHeartbeats 4000000 in
/-- errors.Is(met, y). -/
theorem is_met (at_ x y : Int) (w : World) :
    Calls Tryd.prog 34 #[metV at_ x, .iface 30 (.int .i64 y)] w fun e w' => e = .returned (.bool (x == y)) ∧ Below w.heap.size w w' := by
  have hO := @run_callFunc_extern Tryd.prog 44 _ ReflectliteType.typeOf Tryd.func44 (by kernel_rfl) (by kernel_rfl) (by kernel_rfl) (by kernel_rfl)
  have hC := @run_callFunc_extern Tryd.prog 76 _ comparableE Tryd.func76 (by kernel_rfl) (by kernel_rfl) (by kernel_rfl) (by kernel_rfl)
  have tT := emTypeOfE
  have cT := emComparable
  have mR := emMethodComparable
  have nM := emNoIsM
  have uM := emHasUnwrapM
  have nE := emNoIsE
  have uE := emNoUnwrapE
  have vE := emNoUnwrapsE
  have mU := emMethodUnwrap
  have heq := fun w => Lib.run_eql_iface_int (P := Tryd.prog) w (t := 56) (tx := 30) (k := .i64) (q := .i64) x y Tryd.underlying56 (by kernel_rfl) Tryd.underlying30
  have hty := fun u v w => run_eql_iface_types (P := Tryd.prog) 73 30 u v Tryd.underlying56 (by decide) w
  unfold metV
  go_enter Tryd.func34, Tryd.ntmps34
  go_wp2
  refine wp_loop_rounds 2 ?_
  rw [rounds_succ]
  go_wp2_with (go_at_call 70; refine (unwrap_any at_ x _).mono ?_; rintro _ w1 ⟨rfl, hb1⟩)
  rw [rounds_succ]
  rcases hb : (x == y) with _ | _
  · have heq0 : ∀ w, (binOp .eql 56 (.iface 30 (.int .i64 x)) (.iface 30 (.int .i64 y))).run Tryd.prog w = .ok (.bool false) w := fun w => by rw [heq w, hb]
    have HB := Lib.hid hb
    clear heq hb
    go_wp2
    go_ret
    exact ⟨by rw [HB.out]; rfl, hb1⟩
  · have heq1 : ∀ w, (binOp .eql 56 (.iface 30 (.int .i64 x)) (.iface 30 (.int .i64 y))).run Tryd.prog w = .ok (.bool true) w := fun w => by rw [heq w, hb]
    have HB := Lib.hid hb
    clear heq hb
    go_wp2
    go_ret
    exact ⟨by rw [HB.out]; rfl, hb1⟩

end Go.Proofs.YtipfhcljdginoaaDoor
