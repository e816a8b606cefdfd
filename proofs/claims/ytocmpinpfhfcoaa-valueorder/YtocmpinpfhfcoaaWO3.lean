/-
  What is so while three values are made of three words, whichever operation comes first: an invariant over what is done.
-/
import Derived.Test.YtocmpinpfhfcoaaWO2
import Derived.Test.YtocmpinpfhfcoaaQI
namespace Go.Proofs.Ytocmpinpfhfcoaa
open Go Go.RowKit

/-- The law's slots, in that region. -/
def actO (x y z : V) (b0 b1 b2 : Nat) (v7 v8 v9 v10 v11 v12 v13 v14 v15 : Value) : Act :=
  { tmps := #[.agg #[.int .u8 x.k, .int .i64 x.n, .string x.s], .agg #[.int .u8 y.k, .int .i64 y.n, .string y.s], .agg #[.int .u8 z.k, .int .i64 z.n, .string z.s], .pointer (some ⟨b0, 0, none⟩), .pointer (some ⟨b1, 0, none⟩), .pointer (some ⟨b2, 0, none⟩), .bool false, v7, v8, v9, v10, v11, v12, v13, v14, v15, undef, undef, undef, undef, undef, undef, undef, undef, undef, undef, undef, undef, undef, undef, undef, undef, undef, undef, undef, undef, undef, undef, undef, undef, undef, undef, undef, undef, undef, undef, undef, undef, undef, undef, undef, undef, undef, undef, undef, undef, undef, undef, undef, undef, undef, undef, undef, undef, undef, undef, undef, undef, undef], defers := [] }

/-- An empty box that the region made. -/
def ZBox (B : Nat) (w : World) (v : Value) : Prop :=
  ∃ i, v = .pointer (some ⟨i, 0, none⟩) ∧ B ≤ i ∧ w.cell? ⟨i, 0, none⟩ = some (.int .u8 0) ∧ w.cell? ⟨i, 1, none⟩ = some (.int .i64 0) ∧ w.cell? ⟨i, 2, none⟩ = some (.string ⟨#[]⟩) ∧ (∀ j, w.frozen? ⟨i, j, none⟩ = false)
theorem ZBox.below {B : Nat} {w w' : World} {v : Value} (h : ZBox B w v) (hb : Below w.heap.size w w') : ZBox B w' v := by
  obtain ⟨i, e, hB, h0, h1, h2, h3⟩ := h
  exact ⟨i, e, hB, cell_below hb h0, cell_below hb h1, cell_below hb h2, fun j => (hb.frozen (p := ⟨i, j, none⟩) (show i < w.heap.size from World.block_lt_of_cell? w ⟨i, 0, none⟩ h0)).trans (h3 j)⟩
theorem ZBox.new {B : Nat} (w : World) (t : TypeId) (hB : B ≤ w.heap.size) : ZBox B (w.alloc (.cells #[.int .u8 0, .int .i64 0, .string ⟨#[]⟩] t)) (.pointer (some ⟨w.heap.size, 0, none⟩)) :=
  ⟨_, rfl, hB, by simp, by simp, by simp, fun j => by simp⟩
theorem ZBox.ne {B : Nat} {w : World} {v : Value} (h : ZBox B w v) : v ≠ .pointer (some ⟨w.heap.size, 0, none⟩) := by
  obtain ⟨i, rfl, _, h0, _⟩ := h
  intro e
  injection e with e
  injection e with e
  injection e with e
  have := World.block_lt_of_cell? w _ h0
  simp only at this
  omega

theorem gd {d : Array Bool} {i k : Nat} (h : (d.setIfInBounds i true).getD k false = true) (hne : i ≠ k) : d.getD k false = true := by
  rw [getD_set_ne false hne] at h
  exact h

/-- The invariant. -/
structure InvO (W : World) (x y z vx vy vz : V) (d : Array Bool) (v7 v8 v9 v10 v11 v12 v13 v14 v15 : Value) (w : World) : Prop where
  bel : Below W.heap.size W w
  f0 : d.getD 0 false = true → v10 = .agg #[.int .u8 x.k, .int .i64 x.n, .string x.s]
  f1 : d.getD 1 false = true → v11 = .agg #[.int .u8 vx.k, .int .i64 vx.n, .string vx.s]
  f2 : d.getD 2 false = true → v12 = .agg #[.int .u8 y.k, .int .i64 y.n, .string y.s]
  f3 : d.getD 3 false = true → v13 = .agg #[.int .u8 vy.k, .int .i64 vy.n, .string vy.s]
  f4 : d.getD 4 false = true → v14 = .agg #[.int .u8 z.k, .int .i64 z.n, .string z.s]
  f5 : d.getD 5 false = true → v15 = .agg #[.int .u8 vz.k, .int .i64 vz.n, .string vz.s]
  f6 : d.getD 6 false = true → ZBox W.heap.size w v7
  f7 : d.getD 7 false = true → ZBox W.heap.size w v8
  f8 : d.getD 8 false = true → ZBox W.heap.size w v9
  n67 : d.getD 6 false = true → d.getD 7 false = true → v7 ≠ v8
  n68 : d.getD 6 false = true → d.getD 8 false = true → v7 ≠ v9
  n78 : d.getD 7 false = true → d.getD 8 false = true → v8 ≠ v9

section
variable {W : World} {x y z vx vy vz : V} {d : Array Bool} {v7 v8 v9 v10 v11 v12 v13 v14 v15 : Value} {w w' : World}
theorem InvO.below (h : InvO W x y z vx vy vz d v7 v8 v9 v10 v11 v12 v13 v14 v15 w) (hb : Below w.heap.size w w') : InvO W x y z vx vy vz d v7 v8 v9 v10 v11 v12 v13 v14 v15 w' :=
  ⟨Below.next' h.bel hb h.bel.size, h.f0, h.f1, h.f2, h.f3, h.f4, h.f5, fun e => (h.f6 e).below hb, fun e => (h.f7 e).below hb, fun e => (h.f8 e).below hb, h.n67, h.n68, h.n78⟩
theorem InvO.s0 (h : InvO W x y z vx vy vz d v7 v8 v9 v10 v11 v12 v13 v14 v15 w) : InvO W x y z vx vy vz (d.setIfInBounds 0 true) v7 v8 v9 (Value.agg #[.int .u8 x.k, .int .i64 x.n, .string x.s]) v11 v12 v13 v14 v15 w :=
  ⟨h.bel, fun _ => rfl, fun e => h.f1 (gd e (by decide)), fun e => h.f2 (gd e (by decide)), fun e => h.f3 (gd e (by decide)), fun e => h.f4 (gd e (by decide)), fun e => h.f5 (gd e (by decide)), fun e => h.f6 (gd e (by decide)), fun e => h.f7 (gd e (by decide)), fun e => h.f8 (gd e (by decide)), fun e e' => h.n67 (gd e (by decide)) (gd e' (by decide)), fun e e' => h.n68 (gd e (by decide)) (gd e' (by decide)), fun e e' => h.n78 (gd e (by decide)) (gd e' (by decide))⟩
theorem InvO.s1 (h : InvO W x y z vx vy vz d v7 v8 v9 v10 v11 v12 v13 v14 v15 w) : InvO W x y z vx vy vz (d.setIfInBounds 1 true) v7 v8 v9 v10 (Value.agg #[.int .u8 vx.k, .int .i64 vx.n, .string vx.s]) v12 v13 v14 v15 w :=
  ⟨h.bel, fun e => h.f0 (gd e (by decide)), fun _ => rfl, fun e => h.f2 (gd e (by decide)), fun e => h.f3 (gd e (by decide)), fun e => h.f4 (gd e (by decide)), fun e => h.f5 (gd e (by decide)), fun e => h.f6 (gd e (by decide)), fun e => h.f7 (gd e (by decide)), fun e => h.f8 (gd e (by decide)), fun e e' => h.n67 (gd e (by decide)) (gd e' (by decide)), fun e e' => h.n68 (gd e (by decide)) (gd e' (by decide)), fun e e' => h.n78 (gd e (by decide)) (gd e' (by decide))⟩
theorem InvO.s2 (h : InvO W x y z vx vy vz d v7 v8 v9 v10 v11 v12 v13 v14 v15 w) : InvO W x y z vx vy vz (d.setIfInBounds 2 true) v7 v8 v9 v10 v11 (Value.agg #[.int .u8 y.k, .int .i64 y.n, .string y.s]) v13 v14 v15 w :=
  ⟨h.bel, fun e => h.f0 (gd e (by decide)), fun e => h.f1 (gd e (by decide)), fun _ => rfl, fun e => h.f3 (gd e (by decide)), fun e => h.f4 (gd e (by decide)), fun e => h.f5 (gd e (by decide)), fun e => h.f6 (gd e (by decide)), fun e => h.f7 (gd e (by decide)), fun e => h.f8 (gd e (by decide)), fun e e' => h.n67 (gd e (by decide)) (gd e' (by decide)), fun e e' => h.n68 (gd e (by decide)) (gd e' (by decide)), fun e e' => h.n78 (gd e (by decide)) (gd e' (by decide))⟩
theorem InvO.s3 (h : InvO W x y z vx vy vz d v7 v8 v9 v10 v11 v12 v13 v14 v15 w) : InvO W x y z vx vy vz (d.setIfInBounds 3 true) v7 v8 v9 v10 v11 v12 (Value.agg #[.int .u8 vy.k, .int .i64 vy.n, .string vy.s]) v14 v15 w :=
  ⟨h.bel, fun e => h.f0 (gd e (by decide)), fun e => h.f1 (gd e (by decide)), fun e => h.f2 (gd e (by decide)), fun _ => rfl, fun e => h.f4 (gd e (by decide)), fun e => h.f5 (gd e (by decide)), fun e => h.f6 (gd e (by decide)), fun e => h.f7 (gd e (by decide)), fun e => h.f8 (gd e (by decide)), fun e e' => h.n67 (gd e (by decide)) (gd e' (by decide)), fun e e' => h.n68 (gd e (by decide)) (gd e' (by decide)), fun e e' => h.n78 (gd e (by decide)) (gd e' (by decide))⟩
theorem InvO.s4 (h : InvO W x y z vx vy vz d v7 v8 v9 v10 v11 v12 v13 v14 v15 w) : InvO W x y z vx vy vz (d.setIfInBounds 4 true) v7 v8 v9 v10 v11 v12 v13 (Value.agg #[.int .u8 z.k, .int .i64 z.n, .string z.s]) v15 w :=
  ⟨h.bel, fun e => h.f0 (gd e (by decide)), fun e => h.f1 (gd e (by decide)), fun e => h.f2 (gd e (by decide)), fun e => h.f3 (gd e (by decide)), fun _ => rfl, fun e => h.f5 (gd e (by decide)), fun e => h.f6 (gd e (by decide)), fun e => h.f7 (gd e (by decide)), fun e => h.f8 (gd e (by decide)), fun e e' => h.n67 (gd e (by decide)) (gd e' (by decide)), fun e e' => h.n68 (gd e (by decide)) (gd e' (by decide)), fun e e' => h.n78 (gd e (by decide)) (gd e' (by decide))⟩
theorem InvO.s5 (h : InvO W x y z vx vy vz d v7 v8 v9 v10 v11 v12 v13 v14 v15 w) : InvO W x y z vx vy vz (d.setIfInBounds 5 true) v7 v8 v9 v10 v11 v12 v13 v14 (Value.agg #[.int .u8 vz.k, .int .i64 vz.n, .string vz.s]) w :=
  ⟨h.bel, fun e => h.f0 (gd e (by decide)), fun e => h.f1 (gd e (by decide)), fun e => h.f2 (gd e (by decide)), fun e => h.f3 (gd e (by decide)), fun e => h.f4 (gd e (by decide)), fun _ => rfl, fun e => h.f6 (gd e (by decide)), fun e => h.f7 (gd e (by decide)), fun e => h.f8 (gd e (by decide)), fun e e' => h.n67 (gd e (by decide)) (gd e' (by decide)), fun e e' => h.n68 (gd e (by decide)) (gd e' (by decide)), fun e e' => h.n78 (gd e (by decide)) (gd e' (by decide))⟩
theorem InvO.s6 (h : InvO W x y z vx vy vz d v7 v8 v9 v10 v11 v12 v13 v14 v15 w) : InvO W x y z vx vy vz (d.setIfInBounds 6 true) (Value.pointer (some ⟨w.heap.size, 0, none⟩)) v8 v9 v10 v11 v12 v13 v14 v15 (w.alloc (.cells #[.int .u8 0, .int .i64 0, .string ⟨#[]⟩] 24)) :=
  have k := h.below (w' := (w.alloc (.cells #[.int .u8 0, .int .i64 0, .string ⟨#[]⟩] 24))) ((Below.refl _ _).alloc (Nat.le_refl _) _)
  ⟨k.bel, fun e => k.f0 (gd e (by decide)), fun e => k.f1 (gd e (by decide)), fun e => k.f2 (gd e (by decide)), fun e => k.f3 (gd e (by decide)), fun e => k.f4 (gd e (by decide)), fun e => k.f5 (gd e (by decide)), fun _ => ZBox.new w _ h.bel.size, fun e => k.f7 (gd e (by decide)), fun e => k.f8 (gd e (by decide)), fun _ e' => Ne.symm (ZBox.ne (h.f7 (gd e' (by decide)))), fun _ e' => Ne.symm (ZBox.ne (h.f8 (gd e' (by decide)))), fun e e' => h.n78 (gd e (by decide)) (gd e' (by decide))⟩
theorem InvO.s7 (h : InvO W x y z vx vy vz d v7 v8 v9 v10 v11 v12 v13 v14 v15 w) : InvO W x y z vx vy vz (d.setIfInBounds 7 true) v7 (Value.pointer (some ⟨w.heap.size, 0, none⟩)) v9 v10 v11 v12 v13 v14 v15 (w.alloc (.cells #[.int .u8 0, .int .i64 0, .string ⟨#[]⟩] 24)) :=
  have k := h.below (w' := (w.alloc (.cells #[.int .u8 0, .int .i64 0, .string ⟨#[]⟩] 24))) ((Below.refl _ _).alloc (Nat.le_refl _) _)
  ⟨k.bel, fun e => k.f0 (gd e (by decide)), fun e => k.f1 (gd e (by decide)), fun e => k.f2 (gd e (by decide)), fun e => k.f3 (gd e (by decide)), fun e => k.f4 (gd e (by decide)), fun e => k.f5 (gd e (by decide)), fun e => k.f6 (gd e (by decide)), fun _ => ZBox.new w _ h.bel.size, fun e => k.f8 (gd e (by decide)), fun e _ => ZBox.ne (h.f6 (gd e (by decide))), fun e e' => h.n68 (gd e (by decide)) (gd e' (by decide)), fun _ e' => Ne.symm (ZBox.ne (h.f8 (gd e' (by decide))))⟩
theorem InvO.s8 (h : InvO W x y z vx vy vz d v7 v8 v9 v10 v11 v12 v13 v14 v15 w) : InvO W x y z vx vy vz (d.setIfInBounds 8 true) v7 v8 (Value.pointer (some ⟨w.heap.size, 0, none⟩)) v10 v11 v12 v13 v14 v15 (w.alloc (.cells #[.int .u8 0, .int .i64 0, .string ⟨#[]⟩] 24)) :=
  have k := h.below (w' := (w.alloc (.cells #[.int .u8 0, .int .i64 0, .string ⟨#[]⟩] 24))) ((Below.refl _ _).alloc (Nat.le_refl _) _)
  ⟨k.bel, fun e => k.f0 (gd e (by decide)), fun e => k.f1 (gd e (by decide)), fun e => k.f2 (gd e (by decide)), fun e => k.f3 (gd e (by decide)), fun e => k.f4 (gd e (by decide)), fun e => k.f5 (gd e (by decide)), fun e => k.f6 (gd e (by decide)), fun e => k.f7 (gd e (by decide)), fun _ => ZBox.new w _ h.bel.size, fun e e' => h.n67 (gd e (by decide)) (gd e' (by decide)), fun e _ => ZBox.ne (h.f6 (gd e (by decide))), fun e _ => ZBox.ne (h.f7 (gd e (by decide)))⟩
end

theorem cell_near {w : World} {i m m' : Nat} {v u : Value} (hne : m ≠ m') (h : w.cell? ⟨i, m', none⟩ = some v) : (w.setCell ⟨i, m, none⟩ u).cell? ⟨i, m', none⟩ = some v :=
  (World.cell?_setCell_other w ⟨i, m, none⟩ ⟨i, m', none⟩ u (fun e => hne (by injection e))).trans h
theorem VBox.set {w : World} {i : Nat} {x0 x1 x2 : Value} (a : V) (h0 : w.cell? ⟨i, 0, none⟩ = some x0) (h1 : w.cell? ⟨i, 1, none⟩ = some x1) (h2 : w.cell? ⟨i, 2, none⟩ = some x2) :
    VBox (((w.setCell ⟨i, 0, none⟩ (.int .u8 a.k)).setCell ⟨i, 1, none⟩ (.int .i64 a.n)).setCell ⟨i, 2, none⟩ (.string a.s)) i a :=
  ⟨cell_near (by decide) (cell_near (by decide) (World.cell?_setCell_same _ _ _ h0)), cell_near (by decide) (World.cell?_setCell_same _ _ _ (cell_near (by decide) h1)), World.cell?_setCell_same _ _ _ (cell_near (by decide) (cell_near (by decide) h2))⟩
theorem cell_far3 {w : World} {i j m : Nat} {x0 x1 x2 v : Value} (hne : i ≠ j) (h : w.cell? ⟨j, m, none⟩ = some v) : (((w.setCell ⟨i, 0, none⟩ x0).setCell ⟨i, 1, none⟩ x1).setCell ⟨i, 2, none⟩ x2).cell? ⟨j, m, none⟩ = some v :=
  cell_far hne (cell_far hne (cell_far hne h))
theorem VBox.far {w : World} {i j : Nat} {x0 x1 x2 : Value} {a : V} (hne : i ≠ j) (h : VBox w j a) : VBox (((w.setCell ⟨i, 0, none⟩ x0).setCell ⟨i, 1, none⟩ x1).setCell ⟨i, 2, none⟩ x2) j a :=
  ⟨cell_far3 hne h.1, cell_far3 hne h.2.1, cell_far3 hne h.2.2⟩

theorem cmpV_wrap (a b : V) : wrap64 (cmpV a b) = cmpV a b := by
  have h : cmpV a b = -1 ∨ cmpV a b = 1 ∨ cmpV a b = 0 := by
    unfold cmpV
    split
    · split
      · exact .inl rfl
      · exact .inr (.inl rfl)
    · split
      · exact .inl rfl
      · split
        · exact .inr (.inl rfl)
        · exact .inr (.inr rfl)
  rcases h with h | h | h <;> rw [h] <;> simp [wrap64]

end Go.Proofs.Ytocmpinpfhfcoaa
