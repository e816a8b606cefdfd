/-
  Texts of one claim, joined.
-/
import Derived.WalkKit
import Derived.WalkSpells
import Derived.WalkLawsBesides
import Derived.Deep.QuietTactic
import Derived.BigQuiet
import Derived.Lib.Hide
import Derived.Lib.AppendStr
import Derived.Maps.AppendAt
import Derived.Laws.IdiomStrings
import Derived.Lib.ConvBytes
import Derived.Deep.AppendLies
import Derived.Deep.Draws
import Derived.Test.YtpbjianhkjjgkaaDoorProg
import Derived.Laws.BitsAllLaws
import Derived.IntWalk
namespace Go.Proofs.YtpbjianhkjjgkaaDoor
open Go.RowKit

/-- Bytes as cells. -/
def cellsB (l : List UInt8) : List Value := l.map fun b => Value.int .u8 (b.toNat : Int)

theorem cellsB_length (l : List UInt8) : (cellsB l).length = l.length := by simp [cellsB]
theorem cellsB_append (l r : List UInt8) : cellsB (l ++ r) = cellsB l ++ cellsB r := by simp [cellsB]
theorem cellsB_one (l : List UInt8) : ∀ u ∈ cellsB l, u.oneCell' = true := by
  intro u hu
  simp only [cellsB, List.mem_map] at hu
  obtain ⟨b, _, rfl⟩ := hu
  rfl
theorem cellsB_at (l : List UInt8) (j : Nat) : (cellsB l)[j]? = l[j]?.map fun b => Value.int .u8 (b.toNat : Int) := by simp [cellsB]

/-- The slice 'A, n' holds the bytes l in the world w (nil let in). -/
def Seg (w : World) (A : Option Addr) (n : Nat) (l : List UInt8) : Prop :=
  l.length = n ∧ (0 < n → ∃ g o, A = some ⟨g, o, none⟩ ∧ ∀ j b, l[j]? = some b → w.cell? ⟨g, o + j, none⟩ = some (.int .u8 (b.toNat : Int)))

section
variable {w w' : World} {A : Option Addr} {n : Nat} {l : List UInt8}
theorem Seg.nil (w : World) (A : Option Addr) : Seg w A 0 [] := ⟨rfl, fun h => absurd h (by omega)⟩
theorem Seg.at_ (h : Seg w A n l) {k : Nat} (hk : k < n) :
    ∃ g o, A = some ⟨g, o, none⟩ ∧ w.cell? ⟨g, o + k, none⟩ = some (.int .u8 ((l[k]'(by rw [h.1]; exact hk)).toNat : Int)) := by
  obtain ⟨g, o, e, hc⟩ := h.2 (by omega)
  exact ⟨g, o, e, hc k _ (List.getElem?_eq_getElem (by rw [h.1]; exact hk))⟩
theorem Seg.cell (h : Seg w A n l) {g o : Nat} (e : A = some ⟨g, o, none⟩) {k : Nat} (hk : k < n) :
    w.cell? ⟨g, o + k, none⟩ = some (.int .u8 ((l[k]'(by rw [h.1]; exact hk)).toNat : Int)) := by
  obtain ⟨g', o', e', hc⟩ := h.at_ hk
  rw [e] at e'
  injection e' with e'
  injection e' with e1 e2
  subst e1 e2
  exact hc
theorem Seg.keep (h : Seg w A n l) (hk : ∀ p : Addr, p.block < w.heap.size → w'.cell? p = w.cell? p) : Seg w' A n l := by
  refine ⟨h.1, fun hn => ?_⟩
  obtain ⟨g, o, e, hc⟩ := h.2 hn
  refine ⟨g, o, e, fun j b hb => ?_⟩
  have := hc j b hb
  rw [hk _ (World.block_lt_of_cell? w _ this), this]
theorem Seg.below (h : Seg w A n l) (hb : Below w.heap.size w w') : Seg w' A n l := h.keep fun _ hp => hb.cell hp
theorem Seg.drewN (h : Seg w A n l) (k : Nat) : Seg (w.drewN k) A n l := h
theorem Seg.drew (h : Seg w A n l) : Seg w.drew A n l := h
theorem Seg.alloc (h : Seg w A n l) (o : Obj) : Seg (w.alloc o) A n l := h.keep fun p hp => World.cell?_alloc_lt w o p hp
theorem Seg.len (h : Seg w A n l) : n = l.length := h.1.symm
/-- A row that was just laid. -/
theorem Seg.new (w : World) (l : List UInt8) (t : TypeId) : Seg (w.alloc (.cells (cellsB l).toArray t)) (some ⟨w.heap.size, 0, none⟩) l.length l := by
  refine ⟨rfl, fun _ => ⟨_, _, rfl, fun j b hb => ?_⟩⟩
  rw [cell_of_row _ w.heap.size _ _ _ (0, 0) (heap_alloc_new w _)]
  simp [cellsB_at, hb]
theorem Seg.newAt (w : World) (l : List UInt8) (t : TypeId) (cs : Array Value) (g n : Nat) (hg : g = w.heap.size) (hcs : cs = (cellsB l).toArray) (hn : n = l.length) : Seg (w.alloc (.cells cs t)) (some ⟨g, 0, none⟩) n l := by
  subst hg hcs hn
  exact Seg.new w l t
theorem Seg.one (w : World) (x : Int) (t : TypeId) (b : UInt8) (h : x = (b.toNat : Int)) : Seg (w.alloc (.cells #[.int .u8 x] t)) (some ⟨w.heap.size, 0, none⟩) 1 [b] := by
  subst h
  exact Seg.new w [b] t
theorem Seg.two (w : World) (x y : Int) (t : TypeId) (b c : UInt8) (h : x = (b.toNat : Int)) (k : y = (c.toNat : Int)) :
    Seg (w.alloc (.cells #[.int .u8 x, .int .u8 y] t)) (some ⟨w.heap.size, 0, none⟩) 2 [b, c] := by
  subst h k
  exact Seg.new w [b, c] t
/-- A part of it, by the model's own word for 's[k:m]'. -/
theorem Seg.cut (h : Seg w A n l) (k m : Nat) (hkm : k ≤ m) (hm : m ≤ n) :
    Seg w (A.map (·.add k)) (m - k) ((l.drop k).take (m - k)) := by
  refine ⟨by rw [List.length_take, List.length_drop, h.1]; omega, fun hn => ?_⟩
  obtain ⟨g, o, rfl, hc⟩ := h.2 (by omega)
  refine ⟨g, o + k, ?_, fun j b hb => ?_⟩
  · simp only [Option.map_some, Addr.add]
    split
    · subst k; rfl
    · rfl
  · have hj : j < m - k := by
      have := (List.getElem?_eq_some_iff.1 hb).1
      rw [List.length_take] at this
      omega
    rw [List.getElem?_take_of_lt hj, List.getElem?_drop] at hb
    have := hc _ b hb
    rw [← Nat.add_assoc] at this
    exact this
end

/-- 's[k:]', as the walk writes it. -/
theorem Seg.from_ {w : World} {g o n : Nat} {l : List UInt8} (h : Seg w (some ⟨g, o, none⟩) n l) (k c : Nat) (hk : k ≤ n) (hc : n ≤ c) :
    Seg w (if c = k then some ⟨g, o, none⟩ else some ⟨g, o + k, none⟩) (n - k) (l.drop k) := by
  have h0 := h.cut k n hk (Nat.le_refl _)
  have hl : (l.drop k).take (n - k) = l.drop k := List.take_of_length_le (by rw [List.length_drop, h.1]; omega)
  rw [hl] at h0
  refine ⟨h0.1, fun hn => ?_⟩
  rw [if_neg (by omega)]
  obtain ⟨g', o', e, hc'⟩ := h0.2 hn
  refine ⟨g', o', ?_, hc'⟩
  rw [← e]
  simp only [Option.map_some, Addr.add]
  split
  · subst k; rfl
  · rfl
/-- The same, of a slice whose address is a letter. -/
theorem Seg.fromA {w : World} {A : Option Addr} {n : Nat} {l : List UInt8} (h : Seg w A n l) (k c : Nat) (hk : k ≤ n) (hc : n ≤ c) :
    Seg w (if c = k then A else Option.map (fun x => x.add k) A) (n - k) (l.drop k) := by
  have h0 := h.cut k n hk (Nat.le_refl _)
  have hl : (l.drop k).take (n - k) = l.drop k := List.take_of_length_le (by rw [List.length_drop, h.1]; omega)
  rw [hl] at h0
  refine ⟨h0.1, fun hn => ?_⟩
  rw [if_neg (by omega)]
  exact h0.2 hn
/-- 's[:k]', as the walk writes it. -/
theorem Seg.upto {w : World} {A : Option Addr} {n : Nat} {l : List UInt8} (h : Seg w A n l) (k : Nat) (hk : k ≤ n) : Seg w A k (l.take k) := by
  refine ⟨by rw [List.length_take, h.1]; omega, fun hn => ?_⟩
  obtain ⟨g, o, e, hc⟩ := h.2 (by omega)
  exact ⟨g, o, e, fun j b hb => hc j b (by
    rw [List.getElem?_take] at hb
    split at hb
    · exact hb
    · cases hb)⟩

/-- The slice value v is a row of the call's own (from block 'base' on) and holds the bytes l. -/
def Own (w : World) (base : Nat) (e : TypeId) (v : Value) (l : List UInt8) : Prop := w.ownsRow base e 1 v l.length (cellsB l)

section
variable {w w' : World} {base : Nat} {e : TypeId} {v : Value} {l : List UInt8}
theorem Own.nil (w : World) (base : Nat) (e : TypeId) : Own w base e (.slice none 0 0) [] := World.ownsRow_nil w base e 1
theorem Own.forms (h : Own w base e v l) : ∃ A c, v = .slice A l.length c ∧ Seg w A l.length l ∧ l.length ≤ c ∧ c ≤ maxLen := by
  rcases h.2 with ⟨rfl, hn⟩ | ⟨g, cap, cur, rfl, hb, hg, hnc, hcm, hcs, ht⟩
  · have : l = [] := List.eq_nil_of_length_eq_zero hn
    subst this
    exact ⟨none, 0, rfl, Seg.nil _ _, Nat.le_refl _, Nat.zero_le _⟩
  · refine ⟨_, cap, rfl, ⟨rfl, fun _ => ⟨g, 0, rfl, fun j b hb => ?_⟩⟩, hnc, hcm⟩
    have hj : j < l.length := (List.getElem?_eq_some_iff.1 hb).1
    have h' : w.ownsRow base e 1 (.slice (some ⟨g, 0, none⟩) l.length cap) l.length (cellsB l) := h
    rw [Nat.zero_add, h'.cellAt j (by omega), cellsB_at, hb]
    rfl
theorem Own.lt (h : Own w base e v l) : ∀ k, v.ownBlock = some k → base ≤ k ∧ k < w.heap.size := World.ownsRow.lt h
theorem Own.kept {row : Option Nat} (h : Own w base e v l) (hg : w.grownBy w' row) (hne : v.ownBlock = none ∨ v.ownBlock ≠ row) : Own w' base e v l := World.ownsRow.kept h hg hne
theorem Own.alloc (h : Own w base e v l) (o : Obj) : Own (w.alloc o) base e v l := World.ownsRow.alloc h o
theorem Own.drew (h : Own w base e v l) : Own w.drew base e v l := h
theorem Own.drewN (h : Own w base e v l) (k : Nat) : Own (w.drewN k) base e v l := h
theorem Own.mono (h : Own w base e v l) {b : Nat} (hb : b ≤ base) : Own w b e v l := by
  refine ⟨h.1, ?_⟩
  rcases h.2 with hn | ⟨g, cap, cur, rfl, hbg, rest⟩
  · exact .inl hn
  · exact .inr ⟨g, cap, cur, rfl, Nat.le_trans hb hbg, rest⟩
theorem Own.below (h : Own w base e v l) (hb : Below w.heap.size w w') : Own w' base e v l :=
  h.kept (row := none) ⟨hb.os, hb.tape, hb.output, hb.size, fun k hk _ => hb.block k hk⟩ (by cases v.ownBlock <;> simp)
theorem Own.setCell (h : Own w base e v l) {p : Addr} (hp : p.block < base) (u : Value) : Own (w.setCell p u) base e v l := by
  refine h.kept (row := some p.block) ⟨rfl, rfl, rfl, by simp [World.setCell], fun k _ hne => Below.heap_setCell w p u k (fun e => hne (by rw [e]))⟩ ?_
  rcases hv : v.ownBlock with _ | k
  · exact .inl rfl
  · refine .inr fun e => ?_
    injection e with e
    have := (h.lt k hv).1
    omega
theorem Own.new (w : World) (base : Nat) (e : TypeId) (l : List UInt8) (hb : base ≤ w.heap.size) (hm : l.length ≤ maxLen) :
    Own (w.alloc (.cells (cellsB l).toArray e)) base e (.slice (some ⟨w.heap.size, 0, none⟩) l.length l.length) l :=
  ⟨by simp [cellsB], .inr ⟨w.heap.size, l.length, _, rfl, hb, heap_alloc_new w _, Nat.le_refl _, hm, by simp [cellsB], List.take_of_length_le (by simp [cellsB])⟩⟩
end

theorem Own.one (w : World) (base : Nat) (e : TypeId) (x : Int) (g : Nat) (b : UInt8) (hg : g = w.heap.size) (hb : base ≤ w.heap.size) (hx : x = (b.toNat : Int)) :
    Own (w.alloc (.cells #[.int .u8 x] e)) base e (.slice (some ⟨g, 0, none⟩) 1 1) [b] := by
  subst hg hx
  exact Own.new w base e [b] hb (by simp [maxLen])

/-- A type of slices of bytes, and what the program's table says of its element. -/
structure ByteT (P : Program) (t e : TypeId) : Prop where
  ht : P.underlying t = some (.slice e)
  he : P.underlying e = some (.int .u8)
  hi : (P.info? e).map (fun i => (i.zero, i.size, i.bytes)) = some (some (.int .u8 0), 1, 1)

section
variable {P : Program}
/-- 'string(p)'. -/
theorem run_string_seg (w : World) (src dst e : TypeId) (hB : ByteT P src e) (hd : P.underlying dst = some .string) (A : Option Addr) (n c : Nat) (l : List UInt8) (h : Seg w A n l) :
    (convert src dst (.slice A n c)).run P w = .ok (.string ⟨l.toArray⟩) w := by
  obtain rfl := h.len
  rcases A with _ | a
  · have h0 : l = [] := by
      rcases Nat.eq_zero_or_pos l.length with h0 | h0
      · exact List.eq_nil_of_length_eq_zero h0
      · obtain ⟨g, o, e, _⟩ := h.2 h0
        cases e
    subst h0
    rw [run_convert_bytes_string w src dst e _ _ _ hB.ht hB.he hd]
    simp [Conv.bytesToString]
    rfl
  · refine run_convert_bytes_back w src dst e a c l hB.ht hB.he hd fun j hj => ?_
    obtain ⟨g, o, e, hc⟩ := h.at_ hj
    injection e with e
    subst e
    simp only [Addr.add]
    split
    · subst j; exact hc
    · exact hc
/-- 'append(p, q...)' onto a row of the call's own. -/
theorem run_append_seg (w : World) (t ty e : TypeId) (hB : ByteT P t e) (base : Nat) (v : Value) (l : List UInt8) (hown : Own w base e v l)
    (A : Option Addr) (m c : Nat) (r : List UInt8) (hr : Seg w A m r) (hlen : l.length + m ≤ 1099511627776) (hbase : base ≤ w.heap.size) :
    ∃ v' w', (Builtin.append_ #[t, t] ty #[v, .slice A m c]).run P w = .ok v' w' ∧ Own w' base e v' (l ++ r) ∧ w.grownBy w' v.ownBlock ∧
      (v'.ownBlock = v.ownBlock ∨ v'.ownBlock = some w.heap.size) := by
  obtain ⟨i, hi, hz0, hz1, hz2⟩ := info_parts hB.hi
  obtain rfl := hr.len
  rcases Nat.eq_zero_or_pos r.length with h0 | h0
  · have hr0 : r = [] := List.eq_nil_of_length_eq_zero h0
    subst hr0
    refine ⟨v, w, ?_, by simpa using hown, World.grownBy.refl w _, .inl rfl⟩
    rcases hown.2 with ⟨rfl, _⟩ | ⟨g, cap, cur, rfl, _, _, hnc, _⟩
    · cases A <;> simp [Builtin.append_, run_underlying hB.ht, sizeOf, typeInfo, hi, Builtin.lenOf, Builtin.firstCells, loadCells, loadCellsFrom]
    · cases A <;> simp [Builtin.append_, run_underlying hB.ht, sizeOf, typeInfo, hi, Builtin.lenOf, Builtin.firstCells, hnc, storeCells, loadCells, loadCellsFrom]
  · obtain ⟨g, o, rfl, hc⟩ := hr.2 h0
    have hnews : ∀ j u, (cellsB r)[j]? = some u → w.cell? ((⟨g, o, none⟩ : Addr).add j) = some u := by
      intro j u hu
      rw [cellsB_at] at hu
      obtain ⟨b, hb, rfl⟩ := Option.map_eq_some_iff.1 hu
      have := hc j b hb
      simp only [Addr.add]
      split
      · subst j; simpa using this
      · exact this
    obtain ⟨v', w', hrun, h2, h3, _, h5⟩ := run_append_own_at (P := P) w base t ty e i _ 1 1 hB.ht hi hz0 hz1 hz2 rfl (by omega) v l.length (cellsB l) hown ⟨g, o, none⟩ r.length c (cellsB r)
      (by rw [cellsB_length]; omega) hnews (cellsB_one r) (by simp only [maxLen]; omega) (by omega) hbase
    refine ⟨v', w', hrun, ?_, h3, h5⟩
    unfold Own
    rw [List.length_append, cellsB_append]
    exact h2

theorem wp_append_seg (w : World) {o : Oper} {a : Act} {K : Act → World → Prop} {Q : Exit → Act → World → Prop} (s x : Operand) (t e : TypeId) (hB : ByteT P t e)
    (ho : o.op = .call { callee := .builtin .append, args := #[s, x], argTypes := #[t, t] })
    (base : Nat) (v : Value) (l : List UInt8) (hs : a.eval s = v) (hown : Own w base e v l)
    (A : Option Addr) (m c : Nat) (r : List UInt8) (hx : a.eval x = .slice A m c) (hr : Seg w A m r) (hlen : l.length + m ≤ 1099511627776) (hbase : base ≤ w.heap.size)
    (h : ∀ v' w', Own w' base e v' (l ++ r) → w.grownBy w' v.ownBlock → (v'.ownBlock = v.ownBlock ∨ v'.ownBlock = some w.heap.size) → K (a.put o.dst v') w') : o.wp P a w K Q := by
  obtain ⟨v', w', hrun, h2, h3, h4⟩ := run_append_seg (P := P) w t o.type e hB base v l hown A m c r hr hlen hbase
  unfold Oper.wp execOp
  simp only [ho, resolve, invoke, builtin, Sem.run_bind, Sem.run_pure, Result.andThen_ok, List.map_toArray, List.map_cons, List.map_nil, hs, hx, hrun]
  exact h v' w' h2 h3 h4

theorem wpList_append_seg (w : World) {ops : Array Oper} {rest : List Oper} {o : Oper} {a : Act} {Q : Exit → Act → World → Prop} (hgd : o.guard = none) (s x : Operand) (t e : TypeId) (hB : ByteT P t e)
    (ho : o.op = .call { callee := .builtin .append, args := #[s, x], argTypes := #[t, t] })
    (base : Nat) (v : Value) (l : List UInt8) (hs : a.eval s = v) (hown : Own w base e v l)
    (A : Option Addr) (m c : Nat) (r : List UInt8) (hx : a.eval x = .slice A m c) (hr : Seg w A m r) (hlen : l.length + m ≤ 1099511627776) (hbase : base ≤ w.heap.size)
    (h : ∀ v' w', Own w' base e v' (l ++ r) → w.grownBy w' v.ownBlock → (v'.ownBlock = v.ownBlock ∨ v'.ownBlock = some w.heap.size) → wpList P ops Q rest (a.put o.dst v') w') : wpList P ops Q (o :: rest) a w :=
  wpList_plain hgd fun _ hK => wp_append_seg w s x t e hB ho base v l hs hown A m c r hx hr hlen hbase fun v' w' h2 h3 h4 => hK _ _ (h v' w' h2 h3 h4)

theorem step_append_seg (w : World) {ops : Array Oper} {o : Oper} {a : Act} {K : Act → World → Prop} {Q : Exit → Act → World → Prop} {E : Prop} (hgd : o.guard = none) (s x : Operand) (t e : TypeId) (hB : ByteT P t e)
    (ho : o.op = .call { callee := .builtin .append, args := #[s, x], argTypes := #[t, t] })
    (base : Nat) (v : Value) (l : List UInt8) (hs : a.eval s = v) (hown : Own w base e v l)
    (A : Option Addr) (m c : Nat) (r : List UInt8) (hx : a.eval x = .slice A m c) (hr : Seg w A m r) (hlen : l.length + m ≤ 1099511627776) (hbase : base ≤ w.heap.size)
    (h : ∀ v' w', Own w' base e v' (l ++ r) → w.grownBy w' v.ownBlock → (v'.ownBlock = v.ownBlock ∨ v'.ownBlock = some w.heap.size) → K (a.put o.dst v') w') :
    if Region.wanted o (yielded ops a.tmps) = true then Oper.wp P o a w K Q else E := by
  have hw : Region.wanted o (yielded ops a.tmps) = true := by simp [Region.wanted, hgd]
  rw [if_pos hw]
  exact wp_append_seg w s x t e hB ho base v l hs hown A m c r hx hr hlen hbase h
end

section
variable {P : Program}
/-- 'append(p, s...)' of a text, onto a row of the call's own. -/
theorem wpList_append_str (w : World) {ops : Array Oper} {rest : List Oper} {o : Oper} {a : Act} {Q : Exit → Act → World → Prop} (hgd : o.guard = none) (sl x : Operand) (t u e : TypeId) (hB : ByteT P t e) (hu : P.underlying u = some .string)
    (ho : o.op = .call { callee := .builtin .append, args := #[sl, x], argTypes := #[t, u] })
    (base : Nat) (v : Value) (l : List UInt8) (hs : a.eval sl = v) (hown : Own w base e v l) (s : ByteArray) (hx : a.eval x = .string s)
    (hlen : l.length + s.size ≤ 1099511627776) (hbase : base ≤ w.heap.size)
    (h : ∀ v' w', Own w' base e v' (l ++ s.data.toList) → w.grownBy w' v.ownBlock → wpList P ops Q rest (a.put o.dst v') w') : wpList P ops Q (o :: rest) a w := by
  obtain ⟨i, hi, hz0, hz1, hz2⟩ := info_parts hB.hi
  refine Lib.wpList_append_own_string w hgd sl x t u ho base e i hB.ht hu hi hz0 hz1 hz2 v l.length (cellsB l) hs hown s hx (by simp only [maxLen]; omega) (by omega) hbase ?_
  intro v' w' h1 h2 _
  refine h v' w' ?_ h2
  unfold Own
  rw [List.length_append, cellsB_append, Array.length_toList]
  exact h1
end

section
variable {P : Program}
/-- 'make([]byte, n)'. -/
theorem wpList_make_bytes (w : World) {ops : Array Oper} {rest : List Oper} {o : Oper} {a : Act} {Q : Exit → Act → World → Prop} (hgd : o.guard = none) (x y : Operand) (t e : TypeId) (hB : ByteT P t e)
    (hop : o.op = Op.makeSlice t x y) (base : Nat) (kl kc : IntKind) (L C : Int) (n : Nat) (hl : a.eval x = .int kl L) (hc : a.eval y = .int kc C) (hL : L = (n : Int)) (hC : C = (n : Int)) (hn : n ≤ 1099511627776) (hbase : base ≤ w.heap.size)
    (h : ∀ w', Own w' base e (.slice (some ⟨w.heap.size, 0, none⟩) n n) (List.replicate n 0) → w.grownBy w' none → wpList P ops Q rest (a.put o.dst (.slice (some ⟨w.heap.size, 0, none⟩) n n)) w') : wpList P ops Q (o :: rest) a w := by
  obtain ⟨i, hi, hz0, hz1, hz2⟩ := info_parts hB.hi
  refine wpList_make_full w hgd x y t hop base e i _ 1 hB.ht hi hz0 hz1 kl kc L C n hl hc hL hC (by rw [hz2]; omega) (by simp only [maxLen]; omega) hbase ?_
  intro w' h1 h2
  refine h w' ?_ h2
  unfold Own
  have e1 : (madeCells (Value.int IntKind.u8 0).cells (n * 1)).toList = cellsB (List.replicate n 0) := by
    rw [Nat.mul_one]
    exact (toList_madeCells_one _ n).trans (by simp [cellsB])
  rw [List.length_replicate, ← e1]
  exact h1
end

/-- From 'v in w' to 'v\' in w\'': only v's own row was written, and v' lies there or in a new one. -/
def Grew (w w' : World) (v v' : Value) : Prop := w.grownBy w' v.ownBlock ∧ (v'.ownBlock = v.ownBlock ∨ ∃ k, v'.ownBlock = some k ∧ w.heap.size ≤ k)
theorem Grew.refl (w : World) (v : Value) : Grew w w v v := ⟨World.grownBy.refl _ _, .inl rfl⟩
theorem Grew.of {w w' : World} {v v' : Value} (h : w.grownBy w' v.ownBlock) (k : v'.ownBlock = v.ownBlock ∨ v'.ownBlock = some w.heap.size) : Grew w w' v v' :=
  ⟨h, k.imp id fun e => ⟨_, e, Nat.le_refl _⟩⟩
theorem Grew.trans {a b c : World} {u v x : Value} (h : Grew a b u v) (k : Grew b c v x) : Grew a c u x := by
  refine ⟨⟨k.1.os.trans h.1.os, k.1.tape.trans h.1.tape, k.1.output.trans h.1.output, Nat.le_trans h.1.size k.1.size, fun i hi hne => ?_⟩, ?_⟩
  · refine (k.1.block i (Nat.lt_of_lt_of_le hi h.1.size) fun e => ?_).trans (h.1.block i hi hne)
    rcases h.2 with e' | ⟨j, e', hj⟩
    · exact hne (e.trans e')
    · rw [e'] at e
      injection e with e
      omega
  · rcases k.2 with e | ⟨j, e, hj⟩
    · rcases h.2 with e' | ⟨j, e', hj⟩
      · exact .inl (e.trans e')
      · exact .inr ⟨j, e.trans e', hj⟩
    · exact .inr ⟨j, e, Nat.le_trans h.1.size hj⟩
theorem Grew.alloc {a b : World} {u v : Value} (h : Grew a b u v) (o : Obj) : Grew a (b.alloc o) u v :=
  ⟨⟨h.1.os, h.1.tape, h.1.output, by have := h.1.size; simp; omega, fun k hk hne => (Below.heap_alloc b o k (Nat.lt_of_lt_of_le hk h.1.size)).trans (h.1.block k hk hne)⟩, h.2⟩
theorem Grew.drewN {a b : World} {u v : Value} (h : Grew a b u v) (n : Nat) : Grew a (b.drewN n) u v := ⟨⟨h.1.os, h.1.tape, h.1.output, h.1.size, h.1.block⟩, h.2⟩
theorem Grew.below {B : Nat} {a w w' : World} {v v' : Value} {base : Nat} {e : TypeId} {l : List UInt8} (h : Grew w w' v v') (ha : Below B a w) (ho : Own w base e v l) (hb : B ≤ base) (hB : B ≤ w.heap.size) : Below B a w' :=
  ha.grown h.1 hB fun k hk => Nat.le_trans hb (ho.lt k hk).1

theorem Below.undrew {B : Nat} {W w1 : World} (h : Below B W.drew w1) : Below B W w1 := ⟨h.os, h.tape, h.output, h.size, h.block⟩
theorem Below.undrewN {B n : Nat} {W w1 : World} (h : Below B (W.drewN n) w1) : Below B W w1 := ⟨h.os, h.tape, h.output, h.size, h.block⟩

theorem cell_alloc {w : World} {a : Addr} {v : Value} (o : Obj) (h : w.cell? a = some v) : (w.alloc o).cell? a = some v :=
  (World.cell?_alloc_lt _ _ _ (World.block_lt_of_cell? w a h)).trans h
theorem cell_below {W W' : World} {a : Addr} {v : Value} (hb : Below W.heap.size W W') (h : W.cell? a = some v) : W'.cell? a = some v :=
  (hb.cell (World.block_lt_of_cell? W a h)).trans h
theorem Below.next {W w' w'' : World} (h : Below W.heap.size W w') (hb : Below w'.heap.size w' w'') : Below W.heap.size W w'' := h.trans (hb.mono h.size)

theorem Below.next' {B : Nat} {w W w' : World} (h : Below B w W) (hb : Below W.heap.size W w') (hB : B ≤ W.heap.size) : Below B w w' := h.trans (hb.mono hB)

/-- All that was there reads as before: two rules for the walk. -/
theorem bcell {W w1 : World} (hb : Below W.heap.size W w1) : (∀ b o, b < W.heap.size → w1.cell? ⟨b, o, none⟩ = W.cell? ⟨b, o, none⟩) ∧ (∀ b o, b < W.heap.size → w1.frozen? ⟨b, o, none⟩ = W.frozen? ⟨b, o, none⟩) :=
  ⟨fun b o h => hb.cell (p := ⟨b, o, none⟩) h, fun b o h => hb.frozen (p := ⟨b, o, none⟩) h⟩
theorem bcellD {W w1 : World} (hb : Below W.drew.heap.size W.drew w1) : (∀ b o, b < W.heap.size → w1.cell? ⟨b, o, none⟩ = W.cell? ⟨b, o, none⟩) ∧ (∀ b o, b < W.heap.size → w1.frozen? ⟨b, o, none⟩ = W.frozen? ⟨b, o, none⟩) ∧ W.heap.size ≤ w1.heap.size :=
  ⟨(bcell (Below.undrew hb)).1, (bcell (Below.undrew hb)).2, hb.size⟩

/-- A box of three cells that the call laid ahead of another call that turned nothing old. -/
theorem box3B {w w1 : World} {B : Nat} {a b c : Value} {t : TypeId} (hb : Below B (w.alloc (.cells #[a, b, c] t)) w1) (hB : w.heap.size < B) :
    w1.cell? ⟨w.heap.size, 0, none⟩ = some a ∧ w1.cell? ⟨w.heap.size, 1, none⟩ = some b ∧ w1.cell? ⟨w.heap.size, 2, none⟩ = some c ∧ (∀ j, w1.frozen? ⟨w.heap.size, j, none⟩ = false) ∧ w.heap.size < w1.heap.size := by
  have hs := hb.size
  simp at hs
  refine ⟨?_, ?_, ?_, fun j => ?_, by omega⟩
  · rw [hb.cell (p := ⟨w.heap.size, 0, none⟩) hB]; simp
  · rw [hb.cell (p := ⟨w.heap.size, 1, none⟩) hB]; simp
  · rw [hb.cell (p := ⟨w.heap.size, 2, none⟩) hB]; simp
  · rw [hb.frozen (p := ⟨w.heap.size, j, none⟩) hB]; simp
theorem box3 {w w1 : World} {a b c : Value} {t : TypeId} (hb : Below (w.alloc (.cells #[a, b, c] t)).heap.size (w.alloc (.cells #[a, b, c] t)) w1) :
    w1.cell? ⟨w.heap.size, 0, none⟩ = some a ∧ w1.cell? ⟨w.heap.size, 1, none⟩ = some b ∧ w1.cell? ⟨w.heap.size, 2, none⟩ = some c ∧ (∀ j, w1.frozen? ⟨w.heap.size, j, none⟩ = false) ∧ w.heap.size < w1.heap.size :=
  box3B hb (by simp)
theorem box3d {w w1 : World} {a b c : Value} {t : TypeId} (hb : Below (w.alloc (.cells #[a, b, c] t)).drew.heap.size (w.alloc (.cells #[a, b, c] t)).drew w1) :
    w1.cell? ⟨w.heap.size, 0, none⟩ = some a ∧ w1.cell? ⟨w.heap.size, 1, none⟩ = some b ∧ w1.cell? ⟨w.heap.size, 2, none⟩ = some c ∧ (∀ j, w1.frozen? ⟨w.heap.size, j, none⟩ = false) ∧ w.heap.size < w1.heap.size :=
  box3B (Below.undrew hb) (by simp)

/-- What grew by a row of the call's own has left all below 'B' as it was. -/
theorem below_grown {B : Nat} {a w w' : World} {v : Value} {base : Nat} {e : TypeId} {l : List UInt8} (h : Below B a w) (ho : Own w base e v l) (hg : w.grownBy w' v.ownBlock) (hb : B ≤ base) (hB : B ≤ w.heap.size) : Below B a w' :=
  h.grown hg hB fun k hk => Nat.le_trans hb (ho.lt k hk).1

end Go.Proofs.YtpbjianhkjjgkaaDoor

namespace Go.Proofs.YtpbjianhkjjgkaaDoor
open Go.RowKit

theorem bt : ByteT Tryd.prog 29 5 := ⟨Tryd.underlying29, Tryd.underlying5, by kernel_rfl⟩

set_option maxHeartbeats 400000 in
theorem bytes_any (A B : Option Addr) (n m c d : Nat) (l r : List UInt8) (w : World) (ha : Seg w A n l) (hb : Seg w B m r) (hn : n ≤ maxLen) :
    Calls Tryd.prog 22 #[.slice A n c, .slice B m d] w fun e w' => e = .returned (.bool (l == r)) ∧ ∃ k, w' = w.drewN k := by
  unfold maxLen at hn
  by_cases hnm : n = m
  · subst hnm
    go_enter Tryd.func22, Tryd.ntmps22
    go_wp2
    go_loopw [5] (fun i w' => ∃ k : Nat, k ≤ n ∧ i = .int .i64 k ∧ l.take k = r.take k ∧ ∃ q, w' = w.drewN q) (fun i _ => n - (intOf i).toNat)
    case atStart => exact ⟨0, by omega, rfl, by simp, 0, rfl⟩
    case round =>
      obtain ⟨k, hk, rfl, he, q, rfl⟩ := hrel
      by_cases hlt : k < n
      · obtain ⟨g, o, rfl, hc⟩ := ha.at_ hlt
        obtain ⟨g', o', rfl, hc'⟩ := hb.at_ hlt
        have hl1 : k < l.length := by rw [ha.1]; exact hlt
        have hl2 : k < r.length := by rw [hb.1]; exact hlt
        have HE := Lib.hid he
        clear he
        by_cases heq : l[k]'(by rw [ha.1]; exact hlt) = r[k]'(by rw [hb.1]; exact hlt)
        · have ht : (((l[k]'(by rw [ha.1]; exact hlt)).toNat : Int) != ((r[k]'(by rw [hb.1]; exact hlt)).toNat : Int)) = false := by simp [heq]
          have HQ := Lib.hid heq
          clear heq
          go_wp2
          go_quiet (fail)
          go_wp2
          go_roundw
          case rel =>
            exact ⟨k + 1, hlt, by go_num, by rw [List.take_succ_eq_append_getElem hl1, List.take_succ_eq_append_getElem hl2, HE.out, HQ.out], _, rfl⟩
          case measure => simp [intOf]; omega
        · have ht : (((l[k]'(by rw [ha.1]; exact hlt)).toNat : Int) != ((r[k]'(by rw [hb.1]; exact hlt)).toNat : Int)) = true := by
            simp; intro h; exact heq (UInt8.toNat_inj.1 (by exact_mod_cast h))
          go_wp2
          go_quiet (fail)
          go_wp2
          go_ret
          have : (l == r) = false := by
            rw [beq_eq_false_iff_ne]; rintro rfl; exact heq rfl
          exact ⟨by rw [this]; rfl, q + nq, World.drewN_drewN _ _ _⟩
      · go_wp2
        go_ret
        have : (l == r) = true := by
          rw [beq_iff_eq]
          have h1 := ha.1
          have h2 := hb.1
          rw [List.take_of_length_le (by omega), List.take_of_length_le (by omega)] at he
          exact he
        exact ⟨by rw [this]; rfl, _, rfl⟩
  · have h1 : ((n : Int) != (m : Int)) = true := by simp; omega
    go_enter Tryd.func22, Tryd.ntmps22
    go_wp2
    go_ret
    have : (l == r) = false := by
      rw [beq_eq_false_iff_ne]; rintro rfl; exact hnm (ha.1.symm.trans hb.1)
    exact ⟨by rw [this]; rfl, 0, rfl⟩

set_option maxHeartbeats 400000 in
theorem join_any (A B : Option Addr) (n m c d : Nat) (l r : List UInt8) (w : World) (ha : Seg w A n l) (hb : Seg w B m r) (hn : n + m ≤ 1099511627776) :
    Calls Tryd.prog 46 #[.slice A n c, .slice B m d] w fun e w' => ∃ v, e = .returned v ∧ Own w' w.heap.size 5 v (l ++ r) ∧ Below w.heap.size w w' := by
  go_enter Tryd.func46, Tryd.ntmps46
  go_wp2_with (first
    | (at_builtin
       refine wpList_append_seg _ rfl (.tmp 6) (.tmp 7) _ _ bt rfl w.heap.size (.slice none 0 0) [] rfl (Own.nil _ _ _) A n c l rfl ha (by simp; omega) (Nat.le_refl _) ?_
       intro v1 w1 hown1 hg1 hat1
       have hbw1 : Below w.heap.size w w1 := below_grown (Below.refl _ _) (Own.nil _ w.heap.size 0) hg1 (Nat.le_refl _) (Nat.le_refl _))
    | (at_builtin
       refine wpList_append_seg _ rfl (.tmp 9) (.tmp 10) _ _ bt rfl w.heap.size v1 _ rfl hown1 B m d r rfl (hb.below hbw1) (by have := ha.1; simp; omega) hbw1.size ?_
       intro v2 w2 hown2 hg2 hat2))
  go_ret
  exact ⟨v2, rfl, by simpa using hown2, below_grown hbw1 hown1 hg2 (Nat.le_refl _) hbw1.size⟩

end Go.Proofs.YtpbjianhkjjgkaaDoor

namespace Go.Proofs.YtpbjianhkjjgkaaDoor
open Go.RowKit

/-- A number's lowest bytes, the highest of them first. -/
def high (n : Nat) : Nat → List UInt8
  | 0 => []
  | k + 1 => UInt8.ofNat (n / 2 ^ (8 * k)) :: high n k

theorem high_byte (n k : Nat) : (n : Int) / 2 ^ (8 * k) % 256 = ((UInt8.ofNat (n / 2 ^ (8 * k))).toNat : Int) := by
  rw [UInt8.toNat_ofNat']
  rw [Int.natCast_emod, Int.natCast_ediv, Int.natCast_pow]
  rfl

theorem high_length (n k : Nat) : (high n k).length = k := by
  induction k with
  | zero => rfl
  | succ k ih => simp [high, ih]

/-- Bytes as one number, the highest first. -/
def rdN (l : List UInt8) : Nat := l.foldl (fun n b => n * 256 + b.toNat) 0

theorem rdN_snoc (l : List UInt8) (b : UInt8) : rdN (l ++ [b]) = rdN l * 256 + b.toNat := by simp [rdN]

theorem byte_lt (b : UInt8) : b.toNat < 256 := b.toNat_lt

theorem fold_from (l : List UInt8) : ∀ n, l.foldl (fun n b => n * 256 + b.toNat) n = n * 256 ^ l.length + rdN l := by
  unfold rdN
  induction l with
  | nil => intro n; simp
  | cons b l ih =>
    intro n
    rw [List.foldl_cons, List.foldl_cons, ih, ih (0 * 256 + b.toNat), List.length_cons, Nat.pow_succ, Nat.add_mul, Nat.zero_mul, Nat.zero_add, Nat.mul_assoc, Nat.mul_comm 256, Nat.add_assoc]

theorem rdN_cons (b : UInt8) (l : List UInt8) : rdN (b :: l) = b.toNat * 256 ^ l.length + rdN l := by
  show (b :: l).foldl _ 0 = _
  rw [List.foldl_cons, fold_from]
  simp

theorem rdN_lt (l : List UInt8) : rdN l < 256 ^ l.length := by
  induction l with
  | nil => simp [rdN]
  | cons b l ih =>
    rw [rdN_cons, List.length_cons, Nat.pow_succ]
    have hb := byte_lt b
    have h1 : b.toNat * 256 ^ l.length ≤ 255 * 256 ^ l.length := Nat.mul_le_mul_right _ (by omega)
    omega

theorem rdN_lt' (l : List UInt8) (k : Nat) (h : l.length ≤ k) : rdN l < 256 ^ k :=
  Nat.lt_of_lt_of_le (rdN_lt l) (Nat.pow_le_pow_right (by omega) h)

/-- What was written is read. -/
theorem rdN_high (n k : Nat) : rdN (high n k) = n % 2 ^ (8 * k) := by
  induction k with
  | zero => simp [high, rdN, Nat.mod_one]
  | succ k ih =>
    have e8 : (256 : Nat) ^ k = 2 ^ (8 * k) := by rw [Nat.pow_mul]
    rw [high, rdN_cons, ih, high_length, e8, UInt8.toNat_ofNat', Nat.mul_add, Nat.pow_add]
    show n / 2 ^ (8 * k) % 256 * 2 ^ (8 * k) + n % 2 ^ (8 * k) = n % (2 ^ (8 * k) * 256)
    rw [Nat.mod_mul, Nat.mul_comm (2 ^ (8 * k))]
    omega

theorem high_mod (n m k : Nat) (h : n % 2 ^ (8 * k) = m % 2 ^ (8 * k)) : high n k = high m k := by
  induction k with
  | zero => rfl
  | succ k ih =>
    have hk : (2 : Nat) ^ (8 * (k + 1)) = 2 ^ (8 * k) * 256 := by rw [Nat.mul_add, Nat.pow_add]
    rw [hk] at h
    have h1 : n % 2 ^ (8 * k) = m % 2 ^ (8 * k) := by
      have := congrArg (· % 2 ^ (8 * k)) h
      simpa [Nat.mod_mul_right_mod] using this
    have h2 : n / 2 ^ (8 * k) % 256 = m / 2 ^ (8 * k) % 256 := by
      have := congrArg (· / 2 ^ (8 * k)) h
      simpa [Nat.mod_mul_right_div_self] using this
    rw [high, high, ih h1]
    congr 1
    apply UInt8.toNat_inj.1
    rw [UInt8.toNat_ofNat', UInt8.toNat_ofNat']
    exact h2

/-- What is read is written. -/
theorem high_rdN (l : List UInt8) : high (rdN l) l.length = l := by
  induction l with
  | nil => rfl
  | cons b l ih =>
    have e8 : (256 : Nat) ^ l.length = 2 ^ (8 * l.length) := by rw [Nat.pow_mul]
    have hlt := rdN_lt l
    rw [e8] at hlt
    rw [rdN_cons, List.length_cons, high, e8]
    have h1 : high (b.toNat * 2 ^ (8 * l.length) + rdN l) l.length = high (rdN l) l.length := high_mod _ _ _ (by rw [Nat.mul_comm, Nat.mul_add_mod])
    rw [h1, ih]
    congr 1
    rw [Nat.mul_comm, Nat.mul_add_div (Nat.pow_pos (by omega)), Nat.div_eq_of_lt hlt, Nat.add_zero]
    exact UInt8.ofNat_toNat

theorem or_high (x b : Nat) (hx : x < 72057594037927936) (hb : b < 256) : bits .or .u64 (IntKind.u64.wrap ((x : Int) * 256)) (IntKind.u64.wrap (b : Int)) = ((x * 256 + b : Nat) : Int) := by
  rw [IntWalk.u64_in _ (by omega), IntWalk.u64_in _ (by omega)]
  have e : ((x : Int) * 256) = ((x * 256 : Nat) : Int) := by rw [Int.natCast_mul]; rfl
  rw [e, u64_or_nat _ _ (by omega) (by omega)]
  congr 1
  have := Nat.shiftLeft_add_eq_or_of_lt (a := x) (i := 8) (b := b) hb
  rw [Nat.shiftLeft_eq] at this
  exact this.symm

theorem sum_high (x b : Nat) (hx : x < 72057594037927936) (hb : b < 256) : IntKind.u64.wrap (IntKind.u64.wrap (256 * (x : Int)) + IntKind.u64.wrap (b : Int)) = ((x * 256 + b : Nat) : Int) := by
  rw [IntWalk.u64_in (256 * (x : Int)) (by omega), IntWalk.u64_in (b : Int) (by omega), IntWalk.u64_in _ (by omega)]
  omega

/-- A value: its kind, its number, its text. -/
structure V where
  k : Int
  n : Int
  s : ByteArray

theorem V.ext' {a b : V} (h1 : a.k = b.k) (h2 : a.n = b.n) (h3 : a.s = b.s) : a = b := by
  cases a; cases b; simp_all

/-- Nothing. -/
def V.none : V := ⟨0, 0, ⟨#[]⟩⟩

/-- Is it a value that is right? -/
def V.Ok (v : V) : Prop :=
  (v.k = 0 ∧ v.n = 0 ∧ v.s = ⟨#[]⟩) ∨ (v.k = 1 ∧ v.s = ⟨#[]⟩ ∧ -9223372036854775808 ≤ v.n ∧ v.n ≤ 9223372036854775807) ∨ (v.k = 2 ∧ v.n = 0 ∧ v.s.size ≤ 200)

def V.eqB (a b : V) : Bool := decide (a.k = b.k ∧ a.n = b.n ∧ a.s.toList = b.s.toList)
def V.okB (a : V) : Bool := decide (if a.k = 0 then a.n = 0 ∧ a.s.size = 0 else if a.k = 1 then a.s.size = 0 else a.k = 2 ∧ a.n = 0 ∧ a.s.size ≤ 200)

theorem toList_nil (s : ByteArray) : s.toList = [] ↔ s.size = 0 := by
  rw [ByteArray.toList_eq]
  constructor
  · intro h
    have := congrArg List.length h
    simpa using this
  · intro h
    exact List.eq_nil_of_length_eq_zero (by simpa using h)
theorem toList_isEmpty (s : ByteArray) : s.toList.isEmpty = decide (s.size = 0) := by
  rw [Bool.eq_iff_iff, List.isEmpty_iff, toList_nil]
  simp
theorem toList_inj {a b : ByteArray} : a.toList = b.toList ↔ a = b := by
  rw [ByteArray.toList_eq, ByteArray.toList_eq]
  constructor
  · intro h
    cases a; cases b
    simp only [ByteArray.mk.injEq]
    exact Array.ext' h
  · rintro rfl; rfl
theorem V.eqB_iff (a b : V) : V.eqB a b = true ↔ a = b := by
  unfold V.eqB
  rw [decide_eq_true_iff, toList_inj]
  constructor
  · rintro ⟨h1, h2, h3⟩; exact V.ext' h1 h2 h3
  · rintro rfl; exact ⟨rfl, rfl, rfl⟩
theorem V.okB0 (a : V) (h : (a.k == 0) = true) : V.eqB a V.none = V.okB a := by
  have h0 : a.k = 0 := by simpa using h
  unfold V.eqB V.okB V.none
  simp [h0, toList_nil]
theorem V.okB1 (a : V) (_h0 : (a.k == 0) = false) (h : (a.k == 1) = true) : a.s.toList.isEmpty = V.okB a := by
  have h1 : a.k = 1 := by simpa using h
  rw [toList_isEmpty]
  unfold V.okB
  simp [h1]
theorem V.okB2 (a : V) (h : (a.k == 2) = true) (hn : a.n = 0) : decide ((a.s.size : Int) ≤ 200) = V.okB a := by
  have h2 : a.k = 2 := by simpa using h
  unfold V.okB
  simp [h2, hn]
  omega
theorem V.okB2n (a : V) (h : (a.k == 2) = true) (hn : ¬ a.n = 0) : false = V.okB a := by
  have h2 : a.k = 2 := by simpa using h
  unfold V.okB
  simp [h2, hn]
theorem V.okB3 (a : V) (h0 : (a.k == 0) = false) (h1 : (a.k == 1) = false) (h2 : (a.k == 2) = false) : false = V.okB a := by
  simp at h0 h1 h2
  unfold V.okB
  simp [h0, h1, h2]
theorem V.okB0a (a : V) (h : (a.k == 0) = true) (hn : a.n = 0) : ((a.s.size : Int) == 0) = V.okB a := by
  have h0 : a.k = 0 := by simpa using h
  unfold V.okB
  rw [Bool.eq_iff_iff]
  simp [h0, hn]
theorem V.okB0n (a : V) (h : (a.k == 0) = true) (hn : ¬ a.n = 0) : false = V.okB a := by
  have h0 : a.k = 0 := by simpa using h
  unfold V.okB
  simp [h0, hn]
theorem V.okB1a (a : V) (_h0 : (a.k == 0) = false) (h : (a.k == 1) = true) : ((a.s.size : Int) == 0) = V.okB a := by
  have h1 : a.k = 1 := by simpa using h
  unfold V.okB
  rw [Bool.eq_iff_iff]
  simp [h1]
theorem V.okB3n (a : V) (h0 : (a.k == 0) = false) (h1 : (a.k == 1) = false) (h2 : ¬ a.k = 2) : false = V.okB a :=
  V.okB3 a h0 h1 (by simpa using h2)
theorem V.okB2' (a : V) (h : a.k = 2) (hn : a.n = 0) : decide ((a.s.size : Int) ≤ 200) = V.okB a := V.okB2 a (by simp [h]) hn
theorem V.okB2n' (a : V) (h : a.k = 2) (hn : ¬ a.n = 0) : false = V.okB a := V.okB2n a (by simp [h]) hn
theorem V.okB_of {a : V} (h : a.Ok) : V.okB a = true := by
  unfold V.okB
  rcases h with ⟨h1, h2, h3⟩ | ⟨h1, h2, _⟩ | ⟨h1, h2, h3⟩
  · simp [h1, h2, h3]; rfl
  · simp [h1, h2]; rfl
  · simp [h1, h2, h3]

def u64N (n : Int) : Nat := (n % 18446744073709551616).toNat
theorem u64N_eq (n : Int) : IntKind.u64.wrap n = (u64N n : Int) := by
  rw [IntKind.wrap_u64]
  unfold u64N
  omega
theorem u64N_lt (n : Int) : u64N n < 18446744073709551616 := by unfold u64N; omega
def i64Z (n : Nat) : Int := if n < 9223372036854775808 then (n : Int) else (n : Int) - 18446744073709551616
theorem i64Z_eq (n : Nat) (h : n < 18446744073709551616) : wrap64 (n : Int) = i64Z n := by
  unfold wrap64 i64Z
  split <;> omega

/-- Its bytes. -/
def enc (v : V) : List UInt8 :=
  if v.k = 1 then 1 :: high (u64N v.n) 8 else if v.k = 2 then 2 :: (high v.s.size 2 ++ v.s.data.toList) else [0]

/-- What stands behind a kind's byte: the value, how many bytes it has there, the error's number. -/
def decNum (p : List UInt8) : V × Nat × Int := if p.length < 8 then (V.none, 0, 3) else (⟨1, i64Z (rdN (p.take 8)), ⟨#[]⟩⟩, 8, 0)
def decText (p : List UInt8) : V × Nat × Int :=
  if p.length < 2 then (V.none, 0, 3)
  else if 200 < rdN (p.take 2) then (V.none, 0, 2)
  else if p.length < 2 + rdN (p.take 2) then (V.none, 0, 3)
  else (⟨2, 0, ⟨((p.drop 2).take (rdN (p.take 2))).toArray⟩⟩, 2 + rdN (p.take 2), 0)
def decKind (b : UInt8) (p : List UInt8) : V × Nat × Int :=
  if b = 0 then (V.none, 0, 0) else if b = 1 then decNum p else if b = 2 then decText p else (V.none, 0, 2)
/-- What bytes begin with: the value, how many bytes it has, the error's number. -/
def dec : List UInt8 → V × Nat × Int
  | [] => (V.none, 0, 3)
  | b :: p => ((decKind b p).1, if (decKind b p).2.2 = 0 then (decKind b p).2.1 + 1 else 0, (decKind b p).2.2)

theorem decKind_err (b : UInt8) (p : List UInt8) (h : (decKind b p).2.2 ≠ 0) : (decKind b p).1 = V.none := by
  unfold decKind decNum decText at *
  split
  · rfl
  · split
    · split
      · rfl
      · simp_all
    · split
      · split
        · rfl
        · split
          · rfl
          · split
            · rfl
            · simp_all
      · rfl

end Go.Proofs.YtpbjianhkjjgkaaDoor
