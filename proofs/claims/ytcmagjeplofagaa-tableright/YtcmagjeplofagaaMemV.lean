/-
  Words on memory for slices of values (three cells each): read ('SegV'), owned ('OwnV'), appended to.
-/
import Derived.Test.YtcmagjeplofagaaW9
import Derived.Test.YtcmagjeplofagaaPure4
namespace Go.Proofs.Ytcmagjeplofagaa
open Go.RowKit

/-- Values as cells. -/
def cellsV (l : List V) : List Value := l.flatMap fun v => [.int .u8 v.k, .int .i64 v.n, .string v.s]

theorem cellsV_nil : cellsV [] = [] := rfl
theorem cellsV_cons (v : V) (l : List V) : cellsV (v :: l) = .int .u8 v.k :: .int .i64 v.n :: .string v.s :: cellsV l := rfl
theorem cellsV_append (l r : List V) : cellsV (l ++ r) = cellsV l ++ cellsV r := by simp [cellsV]
theorem cellsV_length (l : List V) : (cellsV l).length = l.length * 3 := by
  induction l with
  | nil => rfl
  | cons v l ih => rw [cellsV_cons]; simp [ih]; omega
theorem cellsV_one (l : List V) : ∀ u ∈ cellsV l, u.oneCell' = true := by
  induction l with
  | nil => intro u hu; cases hu
  | cons v l ih =>
    intro u hu
    rw [cellsV_cons] at hu
    simp only [List.mem_cons] at hu
    rcases hu with rfl | rfl | rfl | hu
    · rfl
    · rfl
    · rfl
    · exact ih u hu
theorem cellsV_at (l : List V) : ∀ (k : Nat) (h : k < l.length), (cellsV l)[k * 3]? = some (.int .u8 l[k].k) ∧ (cellsV l)[k * 3 + 1]? = some (.int .i64 l[k].n) ∧ (cellsV l)[k * 3 + 2]? = some (.string l[k].s) := by
  induction l with
  | nil => intro k h; cases h
  | cons v l ih =>
    intro k h
    rw [cellsV_cons]
    rcases k with _ | k
    · exact ⟨rfl, rfl, rfl⟩
    · have := ih k (by simpa using h)
      rw [show (k + 1) * 3 = k * 3 + 3 from by omega]
      simpa using this

/-- The slice 'A, n' holds the values l in the world w (nil let in). -/
def SegV (w : World) (A : Option Addr) (n : Nat) (l : List V) : Prop :=
  l.length = n ∧ (0 < n → ∃ g o, A = some ⟨g, o, none⟩ ∧ ∀ j u, (cellsV l)[j]? = some u → w.cell? ⟨g, o + j, none⟩ = some u)

section
variable {w w' : World} {A : Option Addr} {n : Nat} {l : List V}
theorem SegV.nil (w : World) (A : Option Addr) : SegV w A 0 [] := ⟨rfl, fun h => absurd h (by omega)⟩
theorem SegV.len (h : SegV w A n l) : n = l.length := h.1.symm
theorem SegV.at_ (h : SegV w A n l) {k : Nat} (hk : k < n) :
    ∃ g o, A = some ⟨g, o, none⟩ ∧ w.cell? ⟨g, o + k * 3, none⟩ = some (.int .u8 (l[k]'(by rw [h.1]; exact hk)).k) ∧ w.cell? ⟨g, o + k * 3 + 1, none⟩ = some (.int .i64 (l[k]'(by rw [h.1]; exact hk)).n) ∧ w.cell? ⟨g, o + k * 3 + 2, none⟩ = some (.string (l[k]'(by rw [h.1]; exact hk)).s) := by
  obtain ⟨g, o, e, hc⟩ := h.2 (by omega)
  obtain ⟨h0, h1, h2⟩ := cellsV_at l k (by rw [h.1]; exact hk)
  refine ⟨g, o, e, hc _ _ h0, ?_, ?_⟩
  · have := hc _ _ h1
    rwa [← Nat.add_assoc] at this
  · have := hc _ _ h2
    rwa [← Nat.add_assoc] at this
theorem SegV.keep (h : SegV w A n l) (hk : ∀ p : Addr, p.block < w.heap.size → w'.cell? p = w.cell? p) : SegV w' A n l := by
  refine ⟨h.1, fun hn => ?_⟩
  obtain ⟨g, o, e, hc⟩ := h.2 hn
  refine ⟨g, o, e, fun j b hb => ?_⟩
  have := hc j b hb
  rw [hk _ (World.block_lt_of_cell? w _ this), this]
theorem SegV.below (h : SegV w A n l) (hb : Below w.heap.size w w') : SegV w' A n l := h.keep fun _ hp => hb.cell hp
theorem SegV.alloc (h : SegV w A n l) (o : Obj) : SegV (w.alloc o) A n l := h.keep fun p hp => World.cell?_alloc_lt w o p hp
theorem SegV.drewN (h : SegV w A n l) (k : Nat) : SegV (w.drewN k) A n l := h
theorem SegV.newAt (w : World) (l : List V) (t : TypeId) (cs : Array Value) (g n : Nat) (hg : g = w.heap.size) (hcs : cs = (cellsV l).toArray) (hn : n = l.length) : SegV (w.alloc (.cells cs t)) (some ⟨g, 0, none⟩) n l := by
  subst hg hcs hn
  refine ⟨rfl, fun _ => ⟨_, _, rfl, fun j b hb => ?_⟩⟩
  rw [cell_of_row _ w.heap.size _ _ _ (0, 0) (heap_alloc_new w _), Nat.zero_add]
  simpa using hb
end

/-- The slice value v is a row of the call's own and holds the values l. -/
def OwnV (w : World) (base : Nat) (e : TypeId) (v : Value) (l : List V) : Prop := w.ownsRow base e 3 v l.length (cellsV l)

section
variable {w w' : World} {base : Nat} {e : TypeId} {v : Value} {l : List V}
theorem OwnV.nil (w : World) (base : Nat) (e : TypeId) : OwnV w base e (.slice none 0 0) [] := World.ownsRow_nil w base e 3
theorem OwnV.forms (h : OwnV w base e v l) : ∃ A c, v = .slice A l.length c ∧ SegV w A l.length l ∧ l.length ≤ c ∧ c ≤ maxLen := by
  rcases h.2 with ⟨rfl, hn⟩ | ⟨g, cap, cur, rfl, hb, hg, hnc, hcm, hcs, ht⟩
  · have : l = [] := List.eq_nil_of_length_eq_zero hn
    subst this
    exact ⟨none, 0, rfl, SegV.nil _ _, Nat.le_refl _, Nat.zero_le _⟩
  · refine ⟨_, cap, rfl, ⟨rfl, fun _ => ⟨g, 0, rfl, fun j b hb => ?_⟩⟩, hnc, hcm⟩
    have hj : j < l.length * 3 := by
      have := (List.getElem?_eq_some_iff.1 hb).1
      rwa [cellsV_length] at this
    have h' : w.ownsRow base e 3 (.slice (some ⟨g, 0, none⟩) l.length cap) l.length (cellsV l) := h
    rw [Nat.zero_add, h'.cellAt j hj, hb]
theorem OwnV.lt (h : OwnV w base e v l) : ∀ k, v.ownBlock = some k → base ≤ k ∧ k < w.heap.size := World.ownsRow.lt h
theorem OwnV.kept {row : Option Nat} (h : OwnV w base e v l) (hg : w.grownBy w' row) (hne : v.ownBlock = none ∨ v.ownBlock ≠ row) : OwnV w' base e v l := World.ownsRow.kept h hg hne
theorem OwnV.alloc (h : OwnV w base e v l) (o : Obj) : OwnV (w.alloc o) base e v l := World.ownsRow.alloc h o
theorem OwnV.mono (h : OwnV w base e v l) {b : Nat} (hb : b ≤ base) : OwnV w b e v l := by
  refine ⟨h.1, ?_⟩
  rcases h.2 with hn | ⟨g, cap, cur, rfl, hbg, rest⟩
  · exact .inl hn
  · exact .inr ⟨g, cap, cur, rfl, Nat.le_trans hb hbg, rest⟩
theorem OwnV.below (h : OwnV w base e v l) (hb : Below w.heap.size w w') : OwnV w' base e v l :=
  h.kept (row := none) ⟨hb.os, hb.tape, hb.output, hb.size, fun k hk _ => hb.block k hk⟩ (by cases v.ownBlock <;> simp)
end

/-- A type of slices of values, and what the program's table says of its element. -/
structure ValT (P : Program) (t e : TypeId) : Prop where
  ht : P.underlying t = some (.slice e)
  hi : (P.info? e).map (fun i => (i.zero, i.size, i.bytes)) = some (some (.agg #[.int .u8 0, .int .i64 0, .string ⟨#[]⟩]), 3, 32)

section
variable {P : Program}
theorem run_append_vals (w : World) (t ty e : TypeId) (hB : ValT P t e) (base : Nat) (v : Value) (l : List V) (hown : OwnV w base e v l)
    (A : Option Addr) (m c : Nat) (r : List V) (hr : SegV w A m r) (hlen : l.length + m ≤ 1099511627776) (hbase : base ≤ w.heap.size) :
    ∃ v' w', (Builtin.append_ #[t, t] ty #[v, .slice A m c]).run P w = .ok v' w' ∧ OwnV w' base e v' (l ++ r) ∧ w.grownBy w' v.ownBlock ∧
      (v'.ownBlock = v.ownBlock ∨ v'.ownBlock = some w.heap.size) := by
  obtain ⟨i, hi, hz0, hz1, hz2⟩ := info_parts hB.hi
  obtain rfl := hr.len
  rcases Nat.eq_zero_or_pos r.length with h0 | h0
  · have hr0 : r = [] := List.eq_nil_of_length_eq_zero h0
    subst hr0
    refine ⟨v, w, ?_, by simpa using hown, World.grownBy.refl w _, .inl rfl⟩
    rcases hown.2 with ⟨rfl, _⟩ | ⟨g, cap, cur, rfl, _, _, hnc, _⟩
    · cases A <;> simp [Builtin.append_, run_underlying hB.ht, sizeOf, typeInfo, hi, Builtin.lenOf, Builtin.firstCells, loadCells, loadCellsFrom]
    · cases A <;> simp [Builtin.append_, run_underlying hB.ht, sizeOf, typeInfo, hi, Builtin.lenOf, Builtin.firstCells, hnc, storeCells, loadCells, loadCellsFrom]
  · obtain ⟨g, o, rfl, hc⟩ := hr.2 h0
    have hnews : ∀ j u, (cellsV r)[j]? = some u → w.cell? ((⟨g, o, none⟩ : Addr).add j) = some u := by
      intro j u hu
      have := hc j u hu
      simp only [Addr.add]
      split
      · subst j; simpa using this
      · exact this
    obtain ⟨v', w', hrun, h2, h3, _, h5⟩ := run_append_own_at (P := P) w base t ty e i _ 3 32 hB.ht hi hz0 hz1 hz2 rfl (by omega) v l.length (cellsV l) hown ⟨g, o, none⟩ r.length c (cellsV r)
      (cellsV_length r) hnews (cellsV_one r) (by simp only [maxLen]; omega) (by omega) hbase
    refine ⟨v', w', hrun, ?_, h3, h5⟩
    unfold OwnV
    rw [List.length_append, cellsV_append]
    exact h2

theorem wpList_append_vals (w : World) {ops : Array Oper} {rest : List Oper} {o : Oper} {a : Act} {Q : Exit → Act → World → Prop} (hgd : o.guard = none) (s x : Operand) (t e : TypeId) (hB : ValT P t e)
    (ho : o.op = .call { callee := .builtin .append, args := #[s, x], argTypes := #[t, t] })
    (base : Nat) (v : Value) (l : List V) (hs : a.eval s = v) (hown : OwnV w base e v l)
    (A : Option Addr) (m c : Nat) (r : List V) (hx : a.eval x = .slice A m c) (hr : SegV w A m r) (hlen : l.length + m ≤ 1099511627776) (hbase : base ≤ w.heap.size)
    (h : ∀ v' w', OwnV w' base e v' (l ++ r) → w.grownBy w' v.ownBlock → (v'.ownBlock = v.ownBlock ∨ v'.ownBlock = some w.heap.size) → wpList P ops Q rest (a.put o.dst v') w') : wpList P ops Q (o :: rest) a w := by
  refine wpList_plain hgd fun K hK => ?_
  obtain ⟨v', w', hrun, h2, h3, h4⟩ := run_append_vals (P := P) w t o.type e hB base v l hown A m c r hr hlen hbase
  unfold Oper.wp execOp
  simp only [ho, resolve, invoke, builtin, Sem.run_bind, Sem.run_pure, Result.andThen_ok, List.map_toArray, List.map_cons, List.map_nil, hs, hx, hrun]
  exact hK _ _ (h v' w' h2 h3 h4)
end

theorem below_grownV {B : Nat} {a w w' : World} {v : Value} {base : Nat} {e : TypeId} {l : List V} (h : Below B a w) (ho : OwnV w base e v l) (hg : w.grownBy w' v.ownBlock) (hb : B ≤ base) (hB : B ≤ w.heap.size) : Below B a w' :=
  h.grown hg hB fun k hk => Nat.le_trans hb (ho.lt k hk).1

theorem vt : ValT Try.prog 37 41 := ⟨Try.underlying37, by kernel_rfl⟩

end Go.Proofs.Ytcmagjeplofagaa
