/-
  Rows of structs in memory, whatever their fields: a layout ('Lay') tells an element's cells; a slice that reads as a list ('SegG'), one that the call owns ('OwnG'), appends and stores.
-/
import Derived.Test.YtipfhcljdginoaaDoorMem
namespace Go.Proofs.YtipfhcljdginoaaDoor
open Go.RowKit

structure Lay (α : Type) where
  z : Nat
  cells : α → List Value
  len : ∀ x, (cells x).length = z
  one : ∀ x, ∀ u ∈ cells x, u.oneCell' = true
  pos : 0 < z

section
variable {α : Type} (Y : Lay α)
def cellsG (l : List α) : List Value := l.flatMap Y.cells
theorem cellsG_nil : cellsG Y [] = [] := rfl
theorem cellsG_cons (x : α) (l : List α) : cellsG Y (x :: l) = Y.cells x ++ cellsG Y l := rfl
theorem cellsG_append (l r : List α) : cellsG Y (l ++ r) = cellsG Y l ++ cellsG Y r := by simp [cellsG]
theorem cellsG_length (l : List α) : (cellsG Y l).length = l.length * Y.z := by
  induction l with
  | nil => simp [cellsG]
  | cons x l ih => rw [cellsG_cons, List.length_append, ih, Y.len, List.length_cons, Nat.add_mul, Nat.one_mul, Nat.add_comm]
theorem cellsG_one (l : List α) : ∀ u ∈ cellsG Y l, u.oneCell' = true := by
  intro u hu
  simp only [cellsG, List.mem_flatMap] at hu
  obtain ⟨x, _, hx⟩ := hu
  exact Y.one x u hx
theorem cellsG_at (l : List α) : ∀ (k : Nat) (h : k < l.length) (j : Nat), j < Y.z → (cellsG Y l)[k * Y.z + j]? = (Y.cells l[k])[j]? := by
  induction l with
  | nil => intro k h; simp at h
  | cons x l ih =>
    intro k h j hj
    rcases k with _ | k
    · rw [cellsG_cons, Nat.zero_mul, Nat.zero_add, List.getElem?_append_left (by rw [Y.len]; exact hj)]
      rfl
    · have e : (k + 1) * Y.z + j = Y.z + (k * Y.z + j) := by rw [Nat.add_mul, Nat.one_mul]; omega
      rw [cellsG_cons, e, List.getElem?_append_right (by rw [Y.len]; omega), Y.len, Nat.add_sub_cancel_left]
      exact ih k (by simpa using h) j hj
theorem cellsG_get (l : List α) (j : Nat) (u : Value) (h : (cellsG Y l)[j]? = some u) : ∃ (k : Nat) (hk : k < l.length) (i : Nat), i < Y.z ∧ j = k * Y.z + i ∧ (Y.cells l[k])[i]? = some u := by
  have hj : j < l.length * Y.z := by
    have := (List.getElem?_eq_some_iff.1 h).1
    rwa [cellsG_length] at this
  have hp := Y.pos
  have hk : j / Y.z < l.length := Nat.div_lt_of_lt_mul (by rw [Nat.mul_comm]; exact hj)
  have hi : j % Y.z < Y.z := Nat.mod_lt _ hp
  have e : j = j / Y.z * Y.z + j % Y.z := by rw [Nat.mul_comm]; exact (Nat.div_add_mod j Y.z).symm
  refine ⟨j / Y.z, hk, j % Y.z, hi, e, ?_⟩
  rw [← cellsG_at Y l _ hk _ hi, ← e]
  exact h
theorem cellsG_set (l : List α) : ∀ (i : Nat) (h : i < l.length) (x : α) (j : Nat) (u : Value), j < Y.z → Y.cells x = (Y.cells l[i]).set j u → cellsG Y (l.set i x) = (cellsG Y l).set (i * Y.z + j) u := by
  induction l with
  | nil => intro i h; simp at h
  | cons y l ih =>
    intro i h x j u hj hx
    rcases i with _ | i
    · rw [List.set_cons_zero, cellsG_cons, cellsG_cons, Nat.zero_mul, Nat.zero_add, List.set_append_left _ _ (by rw [Y.len]; exact hj)]
      rw [hx]
      rfl
    · have e : (i + 1) * Y.z + j = Y.z + (i * Y.z + j) := by rw [Nat.add_mul, Nat.one_mul]; omega
      rw [List.set_cons_succ, cellsG_cons, cellsG_cons, e, List.set_append_right _ _ (by rw [Y.len]; omega), Y.len, Nat.add_sub_cancel_left]
      rw [ih i (by simpa using h) x j u hj hx]
theorem cellsG_drop (l : List α) : ∀ k, cellsG Y (l.drop k) = (cellsG Y l).drop (k * Y.z) := by
  induction l with
  | nil => intro k; simp [cellsG]
  | cons v l ih =>
    intro k
    rcases k with _ | k
    · simp
    · have e : (k + 1) * Y.z = (Y.cells v).length + k * Y.z := by rw [Nat.add_mul, Nat.one_mul, Y.len]; omega
      rw [List.drop_succ_cons, ih k, e, cellsG_cons, List.drop_append]
      simp
theorem cellsG_take (l : List α) : ∀ k, cellsG Y (l.take k) = (cellsG Y l).take (k * Y.z) := by
  induction l with
  | nil => intro k; simp [cellsG]
  | cons v l ih =>
    intro k
    rcases k with _ | k
    · simp [cellsG]
    · have e : (k + 1) * Y.z = (Y.cells v).length + k * Y.z := by rw [Nat.add_mul, Nat.one_mul, Y.len]; omega
      rw [List.take_succ_cons, cellsG_cons, cellsG_cons, ih k, e, List.take_append]
      simp
      exact (List.take_of_length_le (by omega)).symm

/-- The slice 'A, n' holds the elements l in the world w (nil let in). -/
def SegG (w : World) (A : Option Addr) (n : Nat) (l : List α) : Prop :=
  l.length = n ∧ (0 < n → ∃ g o, A = some ⟨g, o, none⟩ ∧ ∀ j u, (cellsG Y l)[j]? = some u → w.cell? ⟨g, o + j, none⟩ = some u)
/-- The slice value v is a row of the call's own (from block 'base' on) and holds the elements l. -/
def OwnG (w : World) (base : Nat) (e : TypeId) (v : Value) (l : List α) : Prop := w.ownsRow base e Y.z v l.length (cellsG Y l)
end

section
variable {α : Type} {Y : Lay α} {w w' : World} {A : Option Addr} {n : Nat} {l : List α}
theorem SegG.nil (w : World) (A : Option Addr) : SegG Y w A 0 [] := ⟨rfl, fun h => absurd h (by omega)⟩
theorem SegG.len (h : SegG Y w A n l) : n = l.length := h.1.symm
theorem SegG.at_ (h : SegG Y w A n l) {k : Nat} (hk : k < n) :
    ∃ g o, A = some ⟨g, o, none⟩ ∧ ∀ j u, (Y.cells (l[k]'(by rw [h.1]; exact hk)))[j]? = some u → w.cell? ⟨g, o + k * Y.z + j, none⟩ = some u := by
  obtain ⟨g, o, e, hc⟩ := h.2 (by omega)
  refine ⟨g, o, e, fun j u hu => ?_⟩
  have hj : j < Y.z := by
    have := (List.getElem?_eq_some_iff.1 hu).1
    rwa [Y.len] at this
  rw [Nat.add_assoc]
  exact hc _ u (by rw [cellsG_at Y l k (by rw [h.1]; exact hk) j hj]; exact hu)
theorem SegG.keep (h : SegG Y w A n l) (hk : ∀ p : Addr, p.block < w.heap.size → w'.cell? p = w.cell? p) : SegG Y w' A n l := by
  refine ⟨h.1, fun hn => ?_⟩
  obtain ⟨g, o, e, hc⟩ := h.2 hn
  refine ⟨g, o, e, fun j b hb => ?_⟩
  have := hc j b hb
  rw [hk _ (World.block_lt_of_cell? w _ this), this]
theorem SegG.below (h : SegG Y w A n l) (hb : Below w.heap.size w w') : SegG Y w' A n l := h.keep fun _ hp => hb.cell hp
theorem SegG.alloc (h : SegG Y w A n l) (o : Obj) : SegG Y (w.alloc o) A n l := h.keep fun p hp => World.cell?_alloc_lt w o p hp
theorem SegG.drewN (h : SegG Y w A n l) (k : Nat) : SegG Y (w.drewN k) A n l := h
theorem SegG.drew (h : SegG Y w A n l) : SegG Y w.drew A n l := h
theorem SegG.newAt (w : World) (l : List α) (t : TypeId) (cs : Array Value) (g n : Nat) (hg : g = w.heap.size) (hcs : cs = (cellsG Y l).toArray) (hn : n = l.length) : SegG Y (w.alloc (.cells cs t)) (some ⟨g, 0, none⟩) n l := by
  subst hg hcs hn
  refine ⟨rfl, fun _ => ⟨_, _, rfl, fun j b hb => ?_⟩⟩
  rw [cell_of_row _ w.heap.size _ _ _ (0, 0) (heap_alloc_new w _), Nat.zero_add]
  simpa using hb
/-- 's[k:]', as the walk writes it. -/
theorem SegG.from_ {g o : Nat} (h : SegG Y w (some ⟨g, o, none⟩) n l) (k c : Nat) (hk : k ≤ n) (hc : n ≤ c) :
    SegG Y w (if c = k then some ⟨g, o, none⟩ else some ⟨g, o + k * Y.z, none⟩) (n - k) (l.drop k) := by
  refine ⟨by rw [List.length_drop, h.1], fun hn => ?_⟩
  rw [if_neg (by omega)]
  refine ⟨g, o + k * Y.z, rfl, fun j u hu => ?_⟩
  obtain ⟨g', o', e, hc'⟩ := h.2 (by omega)
  injection e with e
  injection e with e1 e2
  subst e1 e2
  rw [cellsG_drop, List.getElem?_drop] at hu
  have := hc' _ u hu
  rw [← Nat.add_assoc] at this
  exact this
/-- 's[:k]', as the walk writes it. -/
theorem SegG.upto (h : SegG Y w A n l) (k : Nat) (hk : k ≤ n) : SegG Y w A k (l.take k) := by
  refine ⟨by rw [List.length_take, h.1]; omega, fun hn => ?_⟩
  obtain ⟨g, o, e, hc⟩ := h.2 (by omega)
  exact ⟨g, o, e, fun j u hu => hc j u (by
    rw [cellsG_take, List.getElem?_take] at hu
    split at hu
    · exact hu
    · cases hu)⟩

variable {base : Nat} {e : TypeId} {v : Value}
theorem OwnG.nil (w : World) (base : Nat) (e : TypeId) : OwnG Y w base e (.slice none 0 0) [] := World.ownsRow_nil w base e Y.z
theorem OwnG.forms (h : OwnG Y w base e v l) : ∃ A c, v = .slice A l.length c ∧ SegG Y w A l.length l ∧ l.length ≤ c ∧ c ≤ maxLen := by
  rcases h.2 with ⟨rfl, hn⟩ | ⟨g, cap, cur, rfl, hb, hg, hnc, hcm, hcs, ht⟩
  · have : l = [] := List.eq_nil_of_length_eq_zero hn
    subst this
    exact ⟨none, 0, rfl, SegG.nil _ _, Nat.le_refl _, Nat.zero_le _⟩
  · refine ⟨_, cap, rfl, ⟨rfl, fun _ => ⟨g, 0, rfl, fun j b hb => ?_⟩⟩, hnc, hcm⟩
    have hj : j < l.length * Y.z := by
      have := (List.getElem?_eq_some_iff.1 hb).1
      rwa [cellsG_length] at this
    have h' : w.ownsRow base e Y.z (.slice (some ⟨g, 0, none⟩) l.length cap) l.length (cellsG Y l) := h
    rw [Nat.zero_add, h'.cellAt j hj, hb]
theorem OwnG.lt (h : OwnG Y w base e v l) : ∀ k, v.ownBlock = some k → base ≤ k ∧ k < w.heap.size := World.ownsRow.lt h
theorem OwnG.kept {row : Option Nat} (h : OwnG Y w base e v l) (hg : w.grownBy w' row) (hne : v.ownBlock = none ∨ v.ownBlock ≠ row) : OwnG Y w' base e v l := World.ownsRow.kept h hg hne
theorem OwnG.alloc (h : OwnG Y w base e v l) (o : Obj) : OwnG Y (w.alloc o) base e v l := World.ownsRow.alloc h o
theorem OwnG.drew (h : OwnG Y w base e v l) : OwnG Y w.drew base e v l := h
theorem OwnG.drewN (h : OwnG Y w base e v l) (k : Nat) : OwnG Y (w.drewN k) base e v l := h
theorem OwnG.mono (h : OwnG Y w base e v l) {b : Nat} (hb : b ≤ base) : OwnG Y w b e v l := by
  refine ⟨h.1, ?_⟩
  rcases h.2 with hn | ⟨g, cap, cur, rfl, hbg, rest⟩
  · exact .inl hn
  · exact .inr ⟨g, cap, cur, rfl, Nat.le_trans hb hbg, rest⟩
theorem OwnG.below (h : OwnG Y w base e v l) (hb : Below w.heap.size w w') : OwnG Y w' base e v l :=
  h.kept (row := none) ⟨hb.os, hb.tape, hb.output, hb.size, fun k hk _ => hb.block k hk⟩ (by cases v.ownBlock <;> simp)
/-- A cell of another block is written. -/
theorem OwnG.setFar (h : OwnG Y w base e v l) {p : Addr} (hp : v.ownBlock ≠ some p.block) (u : Value) : OwnG Y (w.setCell p u) base e v l :=
  h.kept (row := some p.block) ⟨rfl, rfl, rfl, by simp [World.setCell], fun k _ hne => Below.heap_setCell w p u k (fun e => hne (by rw [e]))⟩ (.inr hp)
theorem OwnG.new (w : World) (base : Nat) (e : TypeId) (l : List α) (cs : Array Value) (g n c : Nat) (hg : g = w.heap.size) (hcs : cs = (cellsG Y l).toArray) (hn : n = l.length) (hc : c = l.length) (hb : base ≤ w.heap.size) (hm : l.length ≤ maxLen) :
    OwnG Y (w.alloc (.cells cs e)) base e (.slice (some ⟨g, 0, none⟩) n c) l := by
  subst hg hcs hn hc
  exact ⟨by rw [cellsG_length], .inr ⟨w.heap.size, l.length, _, rfl, hb, heap_alloc_new w _, Nat.le_refl _, hm, by simp [cellsG_length], List.take_of_length_le (by simp [cellsG_length])⟩⟩
/-- A cell of a row of the call's own, and the row when it is written over. -/
theorem OwnG.set_ (ho : OwnG Y w base e v l) (i : Nat) (hi : i < l.length) (j : Nat) (hj : j < Y.z) :
    ∃ g cap, v = .slice (some ⟨g, 0, none⟩) l.length cap ∧ base ≤ g ∧ g < w.heap.size ∧ w.cell? ⟨g, i * Y.z + j, none⟩ = (Y.cells l[i])[j]? ∧ w.frozen? ⟨g, i * Y.z + j, none⟩ = false ∧ l.length ≤ cap ∧ cap ≤ maxLen ∧
      ∀ x u, Y.cells x = (Y.cells l[i]).set j u → OwnG Y (w.setCell ⟨g, i * Y.z + j, none⟩ u) base e v (l.set i x) := by
  rcases hh : ho.2 with ⟨_, hz⟩ | ⟨g, cap, cur, e', hb, hg, h3, h4, h5, h6⟩
  · omega
  · subst e'
    have hown : w.ownsRow base e Y.z (.slice (some ⟨g, 0, none⟩) l.length cap) l.length (cellsG Y l) := ho
    have hlt : i * Y.z + j < l.length * Y.z := by
      have : (i + 1) * Y.z ≤ l.length * Y.z := Nat.mul_le_mul_right _ hi
      rw [Nat.add_mul, Nat.one_mul] at this
      omega
    have hc1 : w.cell? ⟨g, i * Y.z + j, none⟩ = (Y.cells l[i])[j]? := by
      rw [hown.cellAt _ hlt, cellsG_at Y l i hi j hj]
    have hsome : (Y.cells l[i])[j]? = some ((Y.cells l[i])[j]'(by rw [Y.len]; exact hj)) := List.getElem?_eq_getElem (by rw [Y.len]; exact hj)
    refine ⟨g, cap, rfl, hb, World.block_lt_of_cell? w _ (hc1.trans hsome), hc1, hown.frozenAt _, h3, h4, fun x u hx => ?_⟩
    have hst := (hown.stored (i * Y.z + j) u).1
    unfold OwnG
    rw [List.length_set, cellsG_set Y l i hi x j u hj hx]
    exact hst
end

/-- A type of slices of such elements, and what the program's table says of an element. -/
structure ElT (P : Program) {α : Type} (Y : Lay α) (t e : TypeId) (zero : Value) (bytes : Nat) : Prop where
  ht : P.underlying t = some (.slice e)
  hi : (P.info? e).map (fun i => (i.zero, i.size, i.bytes)) = some (some zero, Y.z, bytes)
  hz : zero.cells.size = Y.z
  hb : bytes ≤ 120

section
variable {P : Program} {α : Type} {Y : Lay α}
theorem run_append_G (w : World) (t ty e : TypeId) (zero : Value) (bytes : Nat) (hB : ElT P Y t e zero bytes) (base : Nat) (v : Value) (l : List α) (hown : OwnG Y w base e v l)
    (A : Option Addr) (m c : Nat) (r : List α) (hr : SegG Y w A m r) (hlen : l.length + m ≤ 1099511627776) (hbase : base ≤ w.heap.size) :
    ∃ v' w', (Builtin.append_ #[t, t] ty #[v, .slice A m c]).run P w = .ok v' w' ∧ OwnG Y w' base e v' (l ++ r) ∧ w.grownBy w' v.ownBlock ∧
      (v'.ownBlock = v.ownBlock ∨ v'.ownBlock = some w.heap.size) := by
  obtain ⟨i, hi, hz0, hz1, hz2⟩ := info_parts hB.hi
  obtain rfl := hr.len
  rcases Nat.eq_zero_or_pos r.length with h0 | h0
  · have hr0 : r = [] := List.eq_nil_of_length_eq_zero h0
    subst hr0
    refine ⟨v, w, ?_, by simpa using hown, World.grownBy.refl w _, .inl rfl⟩
    rcases hown.2 with ⟨rfl, _⟩ | ⟨g, cap, cur, rfl, _, _, hnc, _⟩
    · cases A <;> simp [Builtin.append_, run_underlying hB.ht, sizeOf, typeInfo, hi, Builtin.lenOf, Builtin.firstCells, loadCells, loadCellsFrom]
    · cases A <;> simp [Builtin.append_, run_underlying hB.ht, sizeOf, typeInfo, hi, Builtin.lenOf, Builtin.firstCells, hnc, storeCells, loadCells, loadCellsFrom]
  · obtain ⟨g, o, rfl, hc⟩ := hr.2 h0
    have hnews : ∀ j u, (cellsG Y r)[j]? = some u → w.cell? ((⟨g, o, none⟩ : Addr).add j) = some u := by
      intro j u hu
      have := hc j u hu
      simp only [Addr.add]
      split
      · subst j; simpa using this
      · exact this
    have hbb : (l.length + r.length) * bytes ≤ 140737488355328 := Nat.le_trans (Nat.mul_le_mul_left _ hB.hb) (by omega)
    obtain ⟨v', w', hrun, h2, h3, _, h5⟩ := run_append_own_at (P := P) w base t ty e i _ Y.z bytes hB.ht hi hz0 hz1 hz2 hB.hz Y.pos v l.length (cellsG Y l) hown ⟨g, o, none⟩ r.length c (cellsG Y r)
      (cellsG_length Y r) hnews (cellsG_one Y r) (by simp only [maxLen]; omega) hbb hbase
    refine ⟨v', w', hrun, ?_, h3, h5⟩
    unfold OwnG
    rw [List.length_append, cellsG_append]
    exact h2

theorem wp_append_G (w : World) {o : Oper} {a : Act} {K : Act → World → Prop} {Q : Exit → Act → World → Prop} (s x : Operand) (t e : TypeId) (zero : Value) (bytes : Nat) (hB : ElT P Y t e zero bytes)
    (ho : o.op = .call { callee := .builtin .append, args := #[s, x], argTypes := #[t, t] })
    (base : Nat) (v : Value) (l : List α) (hs : a.eval s = v) (hown : OwnG Y w base e v l)
    (A : Option Addr) (m c : Nat) (r : List α) (hx : a.eval x = .slice A m c) (hr : SegG Y w A m r) (hlen : l.length + m ≤ 1099511627776) (hbase : base ≤ w.heap.size)
    (h : ∀ v' w', OwnG Y w' base e v' (l ++ r) → w.grownBy w' v.ownBlock → (v'.ownBlock = v.ownBlock ∨ v'.ownBlock = some w.heap.size) → K (a.put o.dst v') w') : o.wp P a w K Q := by
  obtain ⟨v', w', hrun, h2, h3, h4⟩ := run_append_G (P := P) w t o.type e zero bytes hB base v l hown A m c r hr hlen hbase
  unfold Oper.wp execOp
  simp only [ho, resolve, invoke, builtin, Sem.run_bind, Sem.run_pure, Result.andThen_ok, List.map_toArray, List.map_cons, List.map_nil, hs, hx, hrun]
  exact h v' w' h2 h3 h4

theorem wpList_append_G (w : World) {ops : Array Oper} {rest : List Oper} {o : Oper} {a : Act} {Q : Exit → Act → World → Prop} (hgd : o.guard = none) (s x : Operand) (t e : TypeId) (zero : Value) (bytes : Nat) (hB : ElT P Y t e zero bytes)
    (ho : o.op = .call { callee := .builtin .append, args := #[s, x], argTypes := #[t, t] })
    (base : Nat) (v : Value) (l : List α) (hs : a.eval s = v) (hown : OwnG Y w base e v l)
    (A : Option Addr) (m c : Nat) (r : List α) (hx : a.eval x = .slice A m c) (hr : SegG Y w A m r) (hlen : l.length + m ≤ 1099511627776) (hbase : base ≤ w.heap.size)
    (h : ∀ v' w', OwnG Y w' base e v' (l ++ r) → w.grownBy w' v.ownBlock → (v'.ownBlock = v.ownBlock ∨ v'.ownBlock = some w.heap.size) → wpList P ops Q rest (a.put o.dst v') w') : wpList P ops Q (o :: rest) a w :=
  wpList_plain hgd fun _ hK => wp_append_G w s x t e zero bytes hB ho base v l hs hown A m c r hx hr hlen hbase fun v' w' h2 h3 h4 => hK _ _ (h v' w' h2 h3 h4)

theorem step_append_G (w : World) {ops : Array Oper} {o : Oper} {a : Act} {K : Act → World → Prop} {Q : Exit → Act → World → Prop} {E : Prop} (hgd : o.guard = none) (s x : Operand) (t e : TypeId) (zero : Value) (bytes : Nat) (hB : ElT P Y t e zero bytes)
    (ho : o.op = .call { callee := .builtin .append, args := #[s, x], argTypes := #[t, t] })
    (base : Nat) (v : Value) (l : List α) (hs : a.eval s = v) (hown : OwnG Y w base e v l)
    (A : Option Addr) (m c : Nat) (r : List α) (hx : a.eval x = .slice A m c) (hr : SegG Y w A m r) (hlen : l.length + m ≤ 1099511627776) (hbase : base ≤ w.heap.size)
    (h : ∀ v' w', OwnG Y w' base e v' (l ++ r) → w.grownBy w' v.ownBlock → (v'.ownBlock = v.ownBlock ∨ v'.ownBlock = some w.heap.size) → K (a.put o.dst v') w') :
    if Region.wanted o (yielded ops a.tmps) = true then Oper.wp P o a w K Q else E := by
  have hw : Region.wanted o (yielded ops a.tmps) = true := by simp [Region.wanted, hgd]
  rw [if_pos hw]
  exact wp_append_G w s x t e zero bytes hB ho base v l hs hown A m c r hx hr hlen hbase h

theorem below_grownG {B : Nat} {a w w' : World} {v : Value} {base : Nat} {e : TypeId} {l : List α} (h : Below B a w) (ho : OwnG Y w base e v l) (hg : w.grownBy w' v.ownBlock) (hb : B ≤ base) (hB : B ≤ w.heap.size) : Below B a w' :=
  h.grown hg hB fun k hk => Nat.le_trans hb (ho.lt k hk).1
end

end Go.Proofs.YtipfhcljdginoaaDoor
