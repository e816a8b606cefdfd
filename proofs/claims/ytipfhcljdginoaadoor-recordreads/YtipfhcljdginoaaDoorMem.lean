/-
  Words on memory that every walk of this seat uses: a slice of bytes that reads as a list ('Seg'), one that the call owns ('Own'), appends onto such a one.
  No condition of its own: each lemma bears its premises.
-/
import Derived.WalkKit
import Derived.WalkSpells
import Derived.WalkLawsBesides
import Derived.Deep.QuietTactic
import Derived.BigQuiet
import Derived.Lib.Hide
import Derived.Lib.AppendStr
import Derived.Maps.AppendAt
import Derived.Laws.IdiomStrings
import Derived.Lib.ConvBytes
import Derived.Deep.AppendLies
import Derived.Deep.Draws
namespace Go.Proofs.YtipfhcljdginoaaDoor
open Go.RowKit

/-- Bytes as cells. -/
def cellsB (l : List UInt8) : List Value := l.map fun b => Value.int .u8 (b.toNat : Int)

theorem cellsB_length (l : List UInt8) : (cellsB l).length = l.length := by simp [cellsB]
theorem cellsB_append (l r : List UInt8) : cellsB (l ++ r) = cellsB l ++ cellsB r := by simp [cellsB]
theorem cellsB_one (l : List UInt8) : ∀ u ∈ cellsB l, u.oneCell' = true := by
  intro u hu
  simp only [cellsB, List.mem_map] at hu
  obtain ⟨b, _, rfl⟩ := hu
  rfl
theorem cellsB_at (l : List UInt8) (j : Nat) : (cellsB l)[j]? = l[j]?.map fun b => Value.int .u8 (b.toNat : Int) := by simp [cellsB]

/-- The slice 'A, n' holds the bytes l in the world w (nil let in). -/
def Seg (w : World) (A : Option Addr) (n : Nat) (l : List UInt8) : Prop :=
  l.length = n ∧ (0 < n → ∃ g o, A = some ⟨g, o, none⟩ ∧ ∀ j b, l[j]? = some b → w.cell? ⟨g, o + j, none⟩ = some (.int .u8 (b.toNat : Int)))

section
variable {w w' : World} {A : Option Addr} {n : Nat} {l : List UInt8}
theorem Seg.nil (w : World) (A : Option Addr) : Seg w A 0 [] := ⟨rfl, fun h => absurd h (by omega)⟩
theorem Seg.at_ (h : Seg w A n l) {k : Nat} (hk : k < n) :
    ∃ g o, A = some ⟨g, o, none⟩ ∧ w.cell? ⟨g, o + k, none⟩ = some (.int .u8 ((l[k]'(by rw [h.1]; exact hk)).toNat : Int)) := by
  obtain ⟨g, o, e, hc⟩ := h.2 (by omega)
  exact ⟨g, o, e, hc k _ (List.getElem?_eq_getElem (by rw [h.1]; exact hk))⟩
theorem Seg.cell (h : Seg w A n l) {g o : Nat} (e : A = some ⟨g, o, none⟩) {k : Nat} (hk : k < n) :
    w.cell? ⟨g, o + k, none⟩ = some (.int .u8 ((l[k]'(by rw [h.1]; exact hk)).toNat : Int)) := by
  obtain ⟨g', o', e', hc⟩ := h.at_ hk
  rw [e] at e'
  injection e' with e'
  injection e' with e1 e2
  subst e1 e2
  exact hc
theorem Seg.keep (h : Seg w A n l) (hk : ∀ p : Addr, p.block < w.heap.size → w'.cell? p = w.cell? p) : Seg w' A n l := by
  refine ⟨h.1, fun hn => ?_⟩
  obtain ⟨g, o, e, hc⟩ := h.2 hn
  refine ⟨g, o, e, fun j b hb => ?_⟩
  have := hc j b hb
  rw [hk _ (World.block_lt_of_cell? w _ this), this]
theorem Seg.below (h : Seg w A n l) (hb : Below w.heap.size w w') : Seg w' A n l := h.keep fun _ hp => hb.cell hp
theorem Seg.drewN (h : Seg w A n l) (k : Nat) : Seg (w.drewN k) A n l := h
theorem Seg.drew (h : Seg w A n l) : Seg w.drew A n l := h
theorem Seg.alloc (h : Seg w A n l) (o : Obj) : Seg (w.alloc o) A n l := h.keep fun p hp => World.cell?_alloc_lt w o p hp
theorem Seg.len (h : Seg w A n l) : n = l.length := h.1.symm
/-- A row that was just laid. -/
theorem Seg.new (w : World) (l : List UInt8) (t : TypeId) : Seg (w.alloc (.cells (cellsB l).toArray t)) (some ⟨w.heap.size, 0, none⟩) l.length l := by
  refine ⟨rfl, fun _ => ⟨_, _, rfl, fun j b hb => ?_⟩⟩
  rw [cell_of_row _ w.heap.size _ _ _ (0, 0) (heap_alloc_new w _)]
  simp [cellsB_at, hb]
theorem Seg.newAt (w : World) (l : List UInt8) (t : TypeId) (cs : Array Value) (g n : Nat) (hg : g = w.heap.size) (hcs : cs = (cellsB l).toArray) (hn : n = l.length) : Seg (w.alloc (.cells cs t)) (some ⟨g, 0, none⟩) n l := by
  subst hg hcs hn
  exact Seg.new w l t
theorem Seg.one (w : World) (x : Int) (t : TypeId) (b : UInt8) (h : x = (b.toNat : Int)) : Seg (w.alloc (.cells #[.int .u8 x] t)) (some ⟨w.heap.size, 0, none⟩) 1 [b] := by
  subst h
  exact Seg.new w [b] t
theorem Seg.two (w : World) (x y : Int) (t : TypeId) (b c : UInt8) (h : x = (b.toNat : Int)) (k : y = (c.toNat : Int)) :
    Seg (w.alloc (.cells #[.int .u8 x, .int .u8 y] t)) (some ⟨w.heap.size, 0, none⟩) 2 [b, c] := by
  subst h k
  exact Seg.new w [b, c] t
/-- A part of it, by the model's own word for 's[k:m]'. -/
theorem Seg.cut (h : Seg w A n l) (k m : Nat) (hkm : k ≤ m) (hm : m ≤ n) :
    Seg w (A.map (·.add k)) (m - k) ((l.drop k).take (m - k)) := by
  refine ⟨by rw [List.length_take, List.length_drop, h.1]; omega, fun hn => ?_⟩
  obtain ⟨g, o, rfl, hc⟩ := h.2 (by omega)
  refine ⟨g, o + k, ?_, fun j b hb => ?_⟩
  · simp only [Option.map_some, Addr.add]
    split
    · subst k; rfl
    · rfl
  · have hj : j < m - k := by
      have := (List.getElem?_eq_some_iff.1 hb).1
      rw [List.length_take] at this
      omega
    rw [List.getElem?_take_of_lt hj, List.getElem?_drop] at hb
    have := hc _ b hb
    rw [← Nat.add_assoc] at this
    exact this
end

/-- 's[k:]', as the walk writes it. -/
theorem Seg.from_ {w : World} {g o n : Nat} {l : List UInt8} (h : Seg w (some ⟨g, o, none⟩) n l) (k c : Nat) (hk : k ≤ n) (hc : n ≤ c) :
    Seg w (if c = k then some ⟨g, o, none⟩ else some ⟨g, o + k, none⟩) (n - k) (l.drop k) := by
  have h0 := h.cut k n hk (Nat.le_refl _)
  have hl : (l.drop k).take (n - k) = l.drop k := List.take_of_length_le (by rw [List.length_drop, h.1]; omega)
  rw [hl] at h0
  refine ⟨h0.1, fun hn => ?_⟩
  rw [if_neg (by omega)]
  obtain ⟨g', o', e, hc'⟩ := h0.2 hn
  refine ⟨g', o', ?_, hc'⟩
  rw [← e]
  simp only [Option.map_some, Addr.add]
  split
  · subst k; rfl
  · rfl
/-- The same, of a slice whose address is a letter. -/
theorem Seg.fromA {w : World} {A : Option Addr} {n : Nat} {l : List UInt8} (h : Seg w A n l) (k c : Nat) (hk : k ≤ n) (hc : n ≤ c) :
    Seg w (if c = k then A else Option.map (fun x => x.add k) A) (n - k) (l.drop k) := by
  have h0 := h.cut k n hk (Nat.le_refl _)
  have hl : (l.drop k).take (n - k) = l.drop k := List.take_of_length_le (by rw [List.length_drop, h.1]; omega)
  rw [hl] at h0
  refine ⟨h0.1, fun hn => ?_⟩
  rw [if_neg (by omega)]
  exact h0.2 hn
/-- 's[:k]', as the walk writes it. -/
theorem Seg.upto {w : World} {A : Option Addr} {n : Nat} {l : List UInt8} (h : Seg w A n l) (k : Nat) (hk : k ≤ n) : Seg w A k (l.take k) := by
  refine ⟨by rw [List.length_take, h.1]; omega, fun hn => ?_⟩
  obtain ⟨g, o, e, hc⟩ := h.2 (by omega)
  exact ⟨g, o, e, fun j b hb => hc j b (by
    rw [List.getElem?_take] at hb
    split at hb
    · exact hb
    · cases hb)⟩

/-- The slice value v is a row of the call's own (from block 'base' on) and holds the bytes l. -/
def Own (w : World) (base : Nat) (e : TypeId) (v : Value) (l : List UInt8) : Prop := w.ownsRow base e 1 v l.length (cellsB l)

section
variable {w w' : World} {base : Nat} {e : TypeId} {v : Value} {l : List UInt8}
theorem Own.nil (w : World) (base : Nat) (e : TypeId) : Own w base e (.slice none 0 0) [] := World.ownsRow_nil w base e 1
theorem Own.forms (h : Own w base e v l) : ∃ A c, v = .slice A l.length c ∧ Seg w A l.length l ∧ l.length ≤ c ∧ c ≤ maxLen := by
  rcases h.2 with ⟨rfl, hn⟩ | ⟨g, cap, cur, rfl, hb, hg, hnc, hcm, hcs, ht⟩
  · have : l = [] := List.eq_nil_of_length_eq_zero hn
    subst this
    exact ⟨none, 0, rfl, Seg.nil _ _, Nat.le_refl _, Nat.zero_le _⟩
  · refine ⟨_, cap, rfl, ⟨rfl, fun _ => ⟨g, 0, rfl, fun j b hb => ?_⟩⟩, hnc, hcm⟩
    have hj : j < l.length := (List.getElem?_eq_some_iff.1 hb).1
    have h' : w.ownsRow base e 1 (.slice (some ⟨g, 0, none⟩) l.length cap) l.length (cellsB l) := h
    rw [Nat.zero_add, h'.cellAt j (by omega), cellsB_at, hb]
    rfl
theorem Own.lt (h : Own w base e v l) : ∀ k, v.ownBlock = some k → base ≤ k ∧ k < w.heap.size := World.ownsRow.lt h
theorem Own.kept {row : Option Nat} (h : Own w base e v l) (hg : w.grownBy w' row) (hne : v.ownBlock = none ∨ v.ownBlock ≠ row) : Own w' base e v l := World.ownsRow.kept h hg hne
theorem Own.alloc (h : Own w base e v l) (o : Obj) : Own (w.alloc o) base e v l := World.ownsRow.alloc h o
theorem Own.drew (h : Own w base e v l) : Own w.drew base e v l := h
theorem Own.drewN (h : Own w base e v l) (k : Nat) : Own (w.drewN k) base e v l := h
theorem Own.mono (h : Own w base e v l) {b : Nat} (hb : b ≤ base) : Own w b e v l := by
  refine ⟨h.1, ?_⟩
  rcases h.2 with hn | ⟨g, cap, cur, rfl, hbg, rest⟩
  · exact .inl hn
  · exact .inr ⟨g, cap, cur, rfl, Nat.le_trans hb hbg, rest⟩
theorem Own.below (h : Own w base e v l) (hb : Below w.heap.size w w') : Own w' base e v l :=
  h.kept (row := none) ⟨hb.os, hb.tape, hb.output, hb.size, fun k hk _ => hb.block k hk⟩ (by cases v.ownBlock <;> simp)
theorem Own.setCell (h : Own w base e v l) {p : Addr} (hp : p.block < base) (u : Value) : Own (w.setCell p u) base e v l := by
  refine h.kept (row := some p.block) ⟨rfl, rfl, rfl, by simp [World.setCell], fun k _ hne => Below.heap_setCell w p u k (fun e => hne (by rw [e]))⟩ ?_
  rcases hv : v.ownBlock with _ | k
  · exact .inl rfl
  · refine .inr fun e => ?_
    injection e with e
    have := (h.lt k hv).1
    omega
theorem Own.new (w : World) (base : Nat) (e : TypeId) (l : List UInt8) (hb : base ≤ w.heap.size) (hm : l.length ≤ maxLen) :
    Own (w.alloc (.cells (cellsB l).toArray e)) base e (.slice (some ⟨w.heap.size, 0, none⟩) l.length l.length) l :=
  ⟨by simp [cellsB], .inr ⟨w.heap.size, l.length, _, rfl, hb, heap_alloc_new w _, Nat.le_refl _, hm, by simp [cellsB], List.take_of_length_le (by simp [cellsB])⟩⟩
end

theorem Own.one (w : World) (base : Nat) (e : TypeId) (x : Int) (g : Nat) (b : UInt8) (hg : g = w.heap.size) (hb : base ≤ w.heap.size) (hx : x = (b.toNat : Int)) :
    Own (w.alloc (.cells #[.int .u8 x] e)) base e (.slice (some ⟨g, 0, none⟩) 1 1) [b] := by
  subst hg hx
  exact Own.new w base e [b] hb (by simp [maxLen])

/-- A type of slices of bytes, and what the program's table says of its element. -/
structure ByteT (P : Program) (t e : TypeId) : Prop where
  ht : P.underlying t = some (.slice e)
  he : P.underlying e = some (.int .u8)
  hi : (P.info? e).map (fun i => (i.zero, i.size, i.bytes)) = some (some (.int .u8 0), 1, 1)

section
variable {P : Program}
/-- 'string(p)'. -/
theorem run_string_seg (w : World) (src dst e : TypeId) (hB : ByteT P src e) (hd : P.underlying dst = some .string) (A : Option Addr) (n c : Nat) (l : List UInt8) (h : Seg w A n l) :
    (convert src dst (.slice A n c)).run P w = .ok (.string ⟨l.toArray⟩) w := by
  obtain rfl := h.len
  rcases A with _ | a
  · have h0 : l = [] := by
      rcases Nat.eq_zero_or_pos l.length with h0 | h0
      · exact List.eq_nil_of_length_eq_zero h0
      · obtain ⟨g, o, e, _⟩ := h.2 h0
        cases e
    subst h0
    rw [run_convert_bytes_string w src dst e _ _ _ hB.ht hB.he hd]
    simp [Conv.bytesToString]
    rfl
  · refine run_convert_bytes_back w src dst e a c l hB.ht hB.he hd fun j hj => ?_
    obtain ⟨g, o, e, hc⟩ := h.at_ hj
    injection e with e
    subst e
    simp only [Addr.add]
    split
    · subst j; exact hc
    · exact hc
/-- 'append(p, q...)' onto a row of the call's own. -/
theorem run_append_seg (w : World) (t ty e : TypeId) (hB : ByteT P t e) (base : Nat) (v : Value) (l : List UInt8) (hown : Own w base e v l)
    (A : Option Addr) (m c : Nat) (r : List UInt8) (hr : Seg w A m r) (hlen : l.length + m ≤ 1099511627776) (hbase : base ≤ w.heap.size) :
    ∃ v' w', (Builtin.append_ #[t, t] ty #[v, .slice A m c]).run P w = .ok v' w' ∧ Own w' base e v' (l ++ r) ∧ w.grownBy w' v.ownBlock ∧
      (v'.ownBlock = v.ownBlock ∨ v'.ownBlock = some w.heap.size) := by
  obtain ⟨i, hi, hz0, hz1, hz2⟩ := info_parts hB.hi
  obtain rfl := hr.len
  rcases Nat.eq_zero_or_pos r.length with h0 | h0
  · have hr0 : r = [] := List.eq_nil_of_length_eq_zero h0
    subst hr0
    refine ⟨v, w, ?_, by simpa using hown, World.grownBy.refl w _, .inl rfl⟩
    rcases hown.2 with ⟨rfl, _⟩ | ⟨g, cap, cur, rfl, _, _, hnc, _⟩
    · cases A <;> simp [Builtin.append_, run_underlying hB.ht, sizeOf, typeInfo, hi, Builtin.lenOf, Builtin.firstCells, loadCells, loadCellsFrom]
    · cases A <;> simp [Builtin.append_, run_underlying hB.ht, sizeOf, typeInfo, hi, Builtin.lenOf, Builtin.firstCells, hnc, storeCells, loadCells, loadCellsFrom]
  · obtain ⟨g, o, rfl, hc⟩ := hr.2 h0
    have hnews : ∀ j u, (cellsB r)[j]? = some u → w.cell? ((⟨g, o, none⟩ : Addr).add j) = some u := by
      intro j u hu
      rw [cellsB_at] at hu
      obtain ⟨b, hb, rfl⟩ := Option.map_eq_some_iff.1 hu
      have := hc j b hb
      simp only [Addr.add]
      split
      · subst j; simpa using this
      · exact this
    obtain ⟨v', w', hrun, h2, h3, _, h5⟩ := run_append_own_at (P := P) w base t ty e i _ 1 1 hB.ht hi hz0 hz1 hz2 rfl (by omega) v l.length (cellsB l) hown ⟨g, o, none⟩ r.length c (cellsB r)
      (by rw [cellsB_length]; omega) hnews (cellsB_one r) (by simp only [maxLen]; omega) (by omega) hbase
    refine ⟨v', w', hrun, ?_, h3, h5⟩
    unfold Own
    rw [List.length_append, cellsB_append]
    exact h2

theorem wp_append_seg (w : World) {o : Oper} {a : Act} {K : Act → World → Prop} {Q : Exit → Act → World → Prop} (s x : Operand) (t e : TypeId) (hB : ByteT P t e)
    (ho : o.op = .call { callee := .builtin .append, args := #[s, x], argTypes := #[t, t] })
    (base : Nat) (v : Value) (l : List UInt8) (hs : a.eval s = v) (hown : Own w base e v l)
    (A : Option Addr) (m c : Nat) (r : List UInt8) (hx : a.eval x = .slice A m c) (hr : Seg w A m r) (hlen : l.length + m ≤ 1099511627776) (hbase : base ≤ w.heap.size)
    (h : ∀ v' w', Own w' base e v' (l ++ r) → w.grownBy w' v.ownBlock → (v'.ownBlock = v.ownBlock ∨ v'.ownBlock = some w.heap.size) → K (a.put o.dst v') w') : o.wp P a w K Q := by
  obtain ⟨v', w', hrun, h2, h3, h4⟩ := run_append_seg (P := P) w t o.type e hB base v l hown A m c r hr hlen hbase
  unfold Oper.wp execOp
  simp only [ho, resolve, invoke, builtin, Sem.run_bind, Sem.run_pure, Result.andThen_ok, List.map_toArray, List.map_cons, List.map_nil, hs, hx, hrun]
  exact h v' w' h2 h3 h4

theorem wpList_append_seg (w : World) {ops : Array Oper} {rest : List Oper} {o : Oper} {a : Act} {Q : Exit → Act → World → Prop} (hgd : o.guard = none) (s x : Operand) (t e : TypeId) (hB : ByteT P t e)
    (ho : o.op = .call { callee := .builtin .append, args := #[s, x], argTypes := #[t, t] })
    (base : Nat) (v : Value) (l : List UInt8) (hs : a.eval s = v) (hown : Own w base e v l)
    (A : Option Addr) (m c : Nat) (r : List UInt8) (hx : a.eval x = .slice A m c) (hr : Seg w A m r) (hlen : l.length + m ≤ 1099511627776) (hbase : base ≤ w.heap.size)
    (h : ∀ v' w', Own w' base e v' (l ++ r) → w.grownBy w' v.ownBlock → (v'.ownBlock = v.ownBlock ∨ v'.ownBlock = some w.heap.size) → wpList P ops Q rest (a.put o.dst v') w') : wpList P ops Q (o :: rest) a w :=
  wpList_plain hgd fun _ hK => wp_append_seg w s x t e hB ho base v l hs hown A m c r hx hr hlen hbase fun v' w' h2 h3 h4 => hK _ _ (h v' w' h2 h3 h4)

theorem step_append_seg (w : World) {ops : Array Oper} {o : Oper} {a : Act} {K : Act → World → Prop} {Q : Exit → Act → World → Prop} {E : Prop} (hgd : o.guard = none) (s x : Operand) (t e : TypeId) (hB : ByteT P t e)
    (ho : o.op = .call { callee := .builtin .append, args := #[s, x], argTypes := #[t, t] })
    (base : Nat) (v : Value) (l : List UInt8) (hs : a.eval s = v) (hown : Own w base e v l)
    (A : Option Addr) (m c : Nat) (r : List UInt8) (hx : a.eval x = .slice A m c) (hr : Seg w A m r) (hlen : l.length + m ≤ 1099511627776) (hbase : base ≤ w.heap.size)
    (h : ∀ v' w', Own w' base e v' (l ++ r) → w.grownBy w' v.ownBlock → (v'.ownBlock = v.ownBlock ∨ v'.ownBlock = some w.heap.size) → K (a.put o.dst v') w') :
    if Region.wanted o (yielded ops a.tmps) = true then Oper.wp P o a w K Q else E := by
  have hw : Region.wanted o (yielded ops a.tmps) = true := by simp [Region.wanted, hgd]
  rw [if_pos hw]
  exact wp_append_seg w s x t e hB ho base v l hs hown A m c r hx hr hlen hbase h
end

section
variable {P : Program}
/-- 'append(p, s...)' of a text, onto a row of the call's own. -/
theorem wpList_append_str (w : World) {ops : Array Oper} {rest : List Oper} {o : Oper} {a : Act} {Q : Exit → Act → World → Prop} (hgd : o.guard = none) (sl x : Operand) (t u e : TypeId) (hB : ByteT P t e) (hu : P.underlying u = some .string)
    (ho : o.op = .call { callee := .builtin .append, args := #[sl, x], argTypes := #[t, u] })
    (base : Nat) (v : Value) (l : List UInt8) (hs : a.eval sl = v) (hown : Own w base e v l) (s : ByteArray) (hx : a.eval x = .string s)
    (hlen : l.length + s.size ≤ 1099511627776) (hbase : base ≤ w.heap.size)
    (h : ∀ v' w', Own w' base e v' (l ++ s.data.toList) → w.grownBy w' v.ownBlock → wpList P ops Q rest (a.put o.dst v') w') : wpList P ops Q (o :: rest) a w := by
  obtain ⟨i, hi, hz0, hz1, hz2⟩ := info_parts hB.hi
  refine Lib.wpList_append_own_string w hgd sl x t u ho base e i hB.ht hu hi hz0 hz1 hz2 v l.length (cellsB l) hs hown s hx (by simp only [maxLen]; omega) (by omega) hbase ?_
  intro v' w' h1 h2 _
  refine h v' w' ?_ h2
  unfold Own
  rw [List.length_append, cellsB_append, Array.length_toList]
  exact h1
end

section
variable {P : Program}
/-- 'make([]byte, n)'. -/
theorem wpList_make_bytes (w : World) {ops : Array Oper} {rest : List Oper} {o : Oper} {a : Act} {Q : Exit → Act → World → Prop} (hgd : o.guard = none) (x y : Operand) (t e : TypeId) (hB : ByteT P t e)
    (hop : o.op = Op.makeSlice t x y) (base : Nat) (kl kc : IntKind) (L C : Int) (n : Nat) (hl : a.eval x = .int kl L) (hc : a.eval y = .int kc C) (hL : L = (n : Int)) (hC : C = (n : Int)) (hn : n ≤ 1099511627776) (hbase : base ≤ w.heap.size)
    (h : ∀ w', Own w' base e (.slice (some ⟨w.heap.size, 0, none⟩) n n) (List.replicate n 0) → w.grownBy w' none → wpList P ops Q rest (a.put o.dst (.slice (some ⟨w.heap.size, 0, none⟩) n n)) w') : wpList P ops Q (o :: rest) a w := by
  obtain ⟨i, hi, hz0, hz1, hz2⟩ := info_parts hB.hi
  refine wpList_make_full w hgd x y t hop base e i _ 1 hB.ht hi hz0 hz1 kl kc L C n hl hc hL hC (by rw [hz2]; omega) (by simp only [maxLen]; omega) hbase ?_
  intro w' h1 h2
  refine h w' ?_ h2
  unfold Own
  have e1 : (madeCells (Value.int IntKind.u8 0).cells (n * 1)).toList = cellsB (List.replicate n 0) := by
    rw [Nat.mul_one]
    exact (toList_madeCells_one _ n).trans (by simp [cellsB])
  rw [List.length_replicate, ← e1]
  exact h1
end

/-- From 'v in w' to 'v\' in w\'': only v's own row was written, and v' lies there or in a new one. -/
def Grew (w w' : World) (v v' : Value) : Prop := w.grownBy w' v.ownBlock ∧ (v'.ownBlock = v.ownBlock ∨ ∃ k, v'.ownBlock = some k ∧ w.heap.size ≤ k)
theorem Grew.refl (w : World) (v : Value) : Grew w w v v := ⟨World.grownBy.refl _ _, .inl rfl⟩
theorem Grew.of {w w' : World} {v v' : Value} (h : w.grownBy w' v.ownBlock) (k : v'.ownBlock = v.ownBlock ∨ v'.ownBlock = some w.heap.size) : Grew w w' v v' :=
  ⟨h, k.imp id fun e => ⟨_, e, Nat.le_refl _⟩⟩
theorem Grew.trans {a b c : World} {u v x : Value} (h : Grew a b u v) (k : Grew b c v x) : Grew a c u x := by
  refine ⟨⟨k.1.os.trans h.1.os, k.1.tape.trans h.1.tape, k.1.output.trans h.1.output, Nat.le_trans h.1.size k.1.size, fun i hi hne => ?_⟩, ?_⟩
  · refine (k.1.block i (Nat.lt_of_lt_of_le hi h.1.size) fun e => ?_).trans (h.1.block i hi hne)
    rcases h.2 with e' | ⟨j, e', hj⟩
    · exact hne (e.trans e')
    · rw [e'] at e
      injection e with e
      omega
  · rcases k.2 with e | ⟨j, e, hj⟩
    · rcases h.2 with e' | ⟨j, e', hj⟩
      · exact .inl (e.trans e')
      · exact .inr ⟨j, e.trans e', hj⟩
    · exact .inr ⟨j, e, Nat.le_trans h.1.size hj⟩
theorem Grew.alloc {a b : World} {u v : Value} (h : Grew a b u v) (o : Obj) : Grew a (b.alloc o) u v :=
  ⟨⟨h.1.os, h.1.tape, h.1.output, by have := h.1.size; simp; omega, fun k hk hne => (Below.heap_alloc b o k (Nat.lt_of_lt_of_le hk h.1.size)).trans (h.1.block k hk hne)⟩, h.2⟩
theorem Grew.drewN {a b : World} {u v : Value} (h : Grew a b u v) (n : Nat) : Grew a (b.drewN n) u v := ⟨⟨h.1.os, h.1.tape, h.1.output, h.1.size, h.1.block⟩, h.2⟩
theorem Grew.below {B : Nat} {a w w' : World} {v v' : Value} {base : Nat} {e : TypeId} {l : List UInt8} (h : Grew w w' v v') (ha : Below B a w) (ho : Own w base e v l) (hb : B ≤ base) (hB : B ≤ w.heap.size) : Below B a w' :=
  ha.grown h.1 hB fun k hk => Nat.le_trans hb (ho.lt k hk).1

theorem Below.undrew {B : Nat} {W w1 : World} (h : Below B W.drew w1) : Below B W w1 := ⟨h.os, h.tape, h.output, h.size, h.block⟩
theorem Below.undrewN {B n : Nat} {W w1 : World} (h : Below B (W.drewN n) w1) : Below B W w1 := ⟨h.os, h.tape, h.output, h.size, h.block⟩

theorem cell_alloc {w : World} {a : Addr} {v : Value} (o : Obj) (h : w.cell? a = some v) : (w.alloc o).cell? a = some v :=
  (World.cell?_alloc_lt _ _ _ (World.block_lt_of_cell? w a h)).trans h
theorem cell_below {W W' : World} {a : Addr} {v : Value} (hb : Below W.heap.size W W') (h : W.cell? a = some v) : W'.cell? a = some v :=
  (hb.cell (World.block_lt_of_cell? W a h)).trans h
theorem Below.next {W w' w'' : World} (h : Below W.heap.size W w') (hb : Below w'.heap.size w' w'') : Below W.heap.size W w'' := h.trans (hb.mono h.size)

theorem Below.next' {B : Nat} {w W w' : World} (h : Below B w W) (hb : Below W.heap.size W w') (hB : B ≤ W.heap.size) : Below B w w' := h.trans (hb.mono hB)

/-- All that was there reads as before: two rules for the walk. -/
theorem bcell {W w1 : World} (hb : Below W.heap.size W w1) : (∀ b o, b < W.heap.size → w1.cell? ⟨b, o, none⟩ = W.cell? ⟨b, o, none⟩) ∧ (∀ b o, b < W.heap.size → w1.frozen? ⟨b, o, none⟩ = W.frozen? ⟨b, o, none⟩) :=
  ⟨fun b o h => hb.cell (p := ⟨b, o, none⟩) h, fun b o h => hb.frozen (p := ⟨b, o, none⟩) h⟩
theorem bcellD {W w1 : World} (hb : Below W.drew.heap.size W.drew w1) : (∀ b o, b < W.heap.size → w1.cell? ⟨b, o, none⟩ = W.cell? ⟨b, o, none⟩) ∧ (∀ b o, b < W.heap.size → w1.frozen? ⟨b, o, none⟩ = W.frozen? ⟨b, o, none⟩) ∧ W.heap.size ≤ w1.heap.size :=
  ⟨(bcell (Below.undrew hb)).1, (bcell (Below.undrew hb)).2, hb.size⟩

/-- A box of three cells that the call laid ahead of another call that turned nothing old. -/
theorem box3B {w w1 : World} {B : Nat} {a b c : Value} {t : TypeId} (hb : Below B (w.alloc (.cells #[a, b, c] t)) w1) (hB : w.heap.size < B) :
    w1.cell? ⟨w.heap.size, 0, none⟩ = some a ∧ w1.cell? ⟨w.heap.size, 1, none⟩ = some b ∧ w1.cell? ⟨w.heap.size, 2, none⟩ = some c ∧ (∀ j, w1.frozen? ⟨w.heap.size, j, none⟩ = false) ∧ w.heap.size < w1.heap.size := by
  have hs := hb.size
  simp at hs
  refine ⟨?_, ?_, ?_, fun j => ?_, by omega⟩
  · rw [hb.cell (p := ⟨w.heap.size, 0, none⟩) hB]; simp
  · rw [hb.cell (p := ⟨w.heap.size, 1, none⟩) hB]; simp
  · rw [hb.cell (p := ⟨w.heap.size, 2, none⟩) hB]; simp
  · rw [hb.frozen (p := ⟨w.heap.size, j, none⟩) hB]; simp
theorem box3 {w w1 : World} {a b c : Value} {t : TypeId} (hb : Below (w.alloc (.cells #[a, b, c] t)).heap.size (w.alloc (.cells #[a, b, c] t)) w1) :
    w1.cell? ⟨w.heap.size, 0, none⟩ = some a ∧ w1.cell? ⟨w.heap.size, 1, none⟩ = some b ∧ w1.cell? ⟨w.heap.size, 2, none⟩ = some c ∧ (∀ j, w1.frozen? ⟨w.heap.size, j, none⟩ = false) ∧ w.heap.size < w1.heap.size :=
  box3B hb (by simp)
theorem box3d {w w1 : World} {a b c : Value} {t : TypeId} (hb : Below (w.alloc (.cells #[a, b, c] t)).drew.heap.size (w.alloc (.cells #[a, b, c] t)).drew w1) :
    w1.cell? ⟨w.heap.size, 0, none⟩ = some a ∧ w1.cell? ⟨w.heap.size, 1, none⟩ = some b ∧ w1.cell? ⟨w.heap.size, 2, none⟩ = some c ∧ (∀ j, w1.frozen? ⟨w.heap.size, j, none⟩ = false) ∧ w.heap.size < w1.heap.size :=
  box3B (Below.undrew hb) (by simp)

/-- What grew by a row of the call's own has left all below 'B' as it was. -/
theorem below_grown {B : Nat} {a w w' : World} {v : Value} {base : Nat} {e : TypeId} {l : List UInt8} (h : Below B a w) (ho : Own w base e v l) (hg : w.grownBy w' v.ownBlock) (hb : B ≤ base) (hB : B ≤ w.heap.size) : Below B a w' :=
  h.grown hg hB fun k hk => Nat.le_trans hb (ho.lt k hk).1

end Go.Proofs.YtipfhcljdginoaaDoor
