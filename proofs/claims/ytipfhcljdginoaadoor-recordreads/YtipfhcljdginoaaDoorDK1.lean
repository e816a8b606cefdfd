/-
  Words for disks: what stays where just some blocks are turned ('Only'), a disk in memory ('Dk'), and the walks of its smallest functions.
-/
import Derived.Test.YtipfhcljdginoaaDoorWE4
namespace Go.Proofs.YtipfhcljdginoaaDoor
open Go.RowKit

/-- From w to w' just the blocks in S were turned, and new ones laid. -/
structure Only (w w' : World) (S : Nat → Prop) : Prop where
  os : w'.os = w.os
  tape : w'.tape = w.tape
  output : w'.output = w.output
  size : w.heap.size ≤ w'.heap.size
  block : ∀ k : Nat, k < w.heap.size → ¬ S k → w'.heap[k]? = w.heap[k]?

section
variable {w w' a b c : World} {S T : Nat → Prop}
theorem Only.refl (w : World) (S : Nat → Prop) : Only w w S := ⟨rfl, rfl, rfl, Nat.le_refl _, fun _ _ _ => rfl⟩
theorem Only.drewN (h : Only w w' S) (n : Nat) : Only w (w'.drewN n) S := ⟨h.os, h.tape, h.output, h.size, h.block⟩
theorem Only.alloc (h : Only w w' S) (o : Obj) : Only w (w'.alloc o) S :=
  ⟨h.os, h.tape, h.output, by have := h.size; simp; omega, fun k hk hne => (Below.heap_alloc w' o k (Nat.lt_of_lt_of_le hk h.size)).trans (h.block k hk hne)⟩
theorem Only.of_grown {row : Option Nat} (h : w.grownBy w' row) (hr : ∀ k, row = some k → S k) : Only w w' S :=
  ⟨h.os, h.tape, h.output, h.size, fun k hk hs => h.block k hk fun e => hs (hr k e.symm)⟩
theorem Only.of_below (h : Below w.heap.size w w') : Only w w' S := ⟨h.os, h.tape, h.output, h.size, fun k hk _ => h.block k hk⟩
theorem Only.mono (h : Only w w' S) (hS : ∀ k, k < w.heap.size → S k → T k) : Only w w' T :=
  ⟨h.os, h.tape, h.output, h.size, fun k hk hT => h.block k hk fun hs => hT (hS k hk hs)⟩
theorem Only.trans (h : Only a b S) (k : Only b c T) (hT : ∀ i, i < a.heap.size → T i → S i) : Only a c S :=
  ⟨k.os.trans h.os, k.tape.trans h.tape, k.output.trans h.output, Nat.le_trans h.size k.size,
    fun i hi hne => (k.block i (Nat.lt_of_lt_of_le hi h.size) fun ht => hne (hT i hi ht)).trans (h.block i hi hne)⟩
theorem Only.setCell (h : Only w w' S) (p : Addr) (v : Value) (hp : p.block < w.heap.size → S p.block) : Only w (w'.setCell p v) S :=
  ⟨h.os, h.tape, h.output, by have := h.size; simpa [World.setCell] using this, fun k hk hne => (Below.heap_setCell w' p v k (fun e => by
    have e' : p.block = k := by first | exact e | exact e.symm
    subst e'
    exact hne (hp hk))).trans (h.block k hk hne)⟩
theorem Only.below {B : Nat} (h : Only w w' S) (h0 : Below B a w) (hS : ∀ k, S k → B ≤ k) (hB : B ≤ w.heap.size) : Below B a w' :=
  ⟨h.os.trans h0.os, h.tape.trans h0.tape, h.output.trans h0.output, Nat.le_trans h0.size h.size,
    fun k hk => (h.block k (Nat.lt_of_lt_of_le hk hB) fun hs => by have := hS k hs; omega).trans (h0.block k hk)⟩
theorem Only.cell (h : Only w w' S) {p : Addr} {v : Value} (hc : w.cell? p = some v) (hp : ¬ S p.block) : w'.cell? p = some v := by
  have e := h.block p.block (World.block_lt_of_cell? w _ hc) hp
  simp only [World.cell?] at hc ⊢
  rw [e]
  exact hc
theorem Only.froz (h : Only w w' S) {p : Addr} {v : Value} (hc : w.cell? p = some v) (hp : ¬ S p.block) (q : Addr) (hq : q.block = p.block) : w'.frozen? q = w.frozen? q := by
  have e := h.block p.block (World.block_lt_of_cell? w _ hc) hp
  simp only [World.frozen?]
  rw [hq, e]
theorem Own.only {base : Nat} {e : TypeId} {v : Value} {l : List UInt8} (h : Own w base e v l) (hw : Only w w' S) (hv : ∀ k, v.ownBlock = some k → ¬ S k) : Own w' base e v l := by
  have hlt := h.lt
  refine ⟨h.1, ?_⟩
  rcases h.2 with hn | ⟨g, cap, cur, rfl, hbg, hg, rest⟩
  · exact .inl hn
  · exact .inr ⟨g, cap, cur, rfl, hbg, (hw.block g (hlt g rfl).2 (hv g rfl)).trans hg, rest⟩
theorem Seg.only {A : Option Addr} {n : Nat} {l : List UInt8} (h : Seg w A n l) (hw : Only w w' S) (ha : 0 < n → ∀ a, A = some a → ¬ S a.block) : Seg w' A n l := by
  refine ⟨h.1, fun hn => ?_⟩
  obtain ⟨b, o, rfl, hc⟩ := h.2 hn
  exact ⟨b, o, rfl, fun j x hx => hw.cell (hc j x hx) (ha hn ⟨b, o, none⟩ rfl)⟩
theorem Seg.lt {A : Option Addr} {n : Nat} {l : List UInt8} (h : Seg w A n l) (hn : 0 < n) : ∀ a, A = some a → a.block < w.heap.size := by
  intro a ha
  obtain ⟨g, o, e, hc⟩ := h.at_ hn
  rw [ha] at e
  injection e with e
  subst e
  exact World.block_lt_of_cell? w _ hc
/-- A row that was just laid, part of it frozen. -/
theorem Seg.newF (w : World) (l : List UInt8) (t : TypeId) (cs : Array Value) (fr : Nat × Nat) (n : Nat) (hcs : cs = (cellsB l).toArray) (hn : n = l.length) : Seg (w.alloc (.cells cs t fr)) (some ⟨w.heap.size, 0, none⟩) n l := by
  subst hcs hn
  refine ⟨rfl, fun _ => ⟨_, _, rfl, fun j b hb => ?_⟩⟩
  rw [cell_of_row _ w.heap.size _ _ _ fr (heap_alloc_new w _)]
  simp [cellsB_at, hb]
/-- The first bytes of a row of the call's own. -/
theorem Own.upto {base : Nat} {e : TypeId} {A : Option Addr} {n c : Nat} {l : List UInt8} (h : Own w base e (.slice A n c) l) (k : Nat) (hk : k ≤ n) : Own w base e (.slice A k c) (l.take k) := by
  obtain ⟨A', c', hv, _, _, _⟩ := h.forms
  injection hv with hA hn hc
  subst hn
  have hl : (l.take k).length = k := by rw [List.length_take]; omega
  refine ⟨by rw [cellsB_length, hl, Nat.mul_one], ?_⟩
  rw [hl]
  rcases h.2 with ⟨hx, hn⟩ | ⟨g, cap, cur, hx, hb, hg, hnc, hcm, hcs, ht⟩
  · injection hx with hA2 hn2 hc2
    obtain rfl : k = 0 := by omega
    left
    rw [hA2, hc2]
    exact ⟨rfl, rfl⟩
  · injection hx with hA2 hn2 hc2
    subst hA2 hc2
    refine .inr ⟨g, c, cur, rfl, hb, hg, by omega, hcm, hcs, ?_⟩
    rw [Nat.mul_one] at ht ⊢
    have : cellsB (l.take k) = (cellsB l).take k := by simp [cellsB, List.map_take]
    rw [this, ← ht, List.take_take]
    congr 1
    omega
end

/-- The four cells of a disk at block g. -/
structure Dc (w : World) (g : Nat) (v : Value) (s : Int) (f : Bool) (c : Int) : Prop where
  h0 : w.cell? ⟨g, 0, none⟩ = some v
  h1 : w.cell? ⟨g, 1, none⟩ = some (.int .i64 s)
  h2 : w.cell? ⟨g, 2, none⟩ = some (.bool f)
  h3 : w.cell? ⟨g, 3, none⟩ = some (.int .i64 c)
  fr : ∀ j, w.frozen? ⟨g, j, none⟩ = false

section
variable {w w' : World} {S : Nat → Prop} {g : Nat} {v : Value} {s c : Int} {f : Bool}
theorem Dc.lt (h : Dc w g v s f c) : g < w.heap.size := World.block_lt_of_cell? w _ h.h0
theorem Dc.only (h : Dc w g v s f c) (hw : Only w w' S) (hg : ¬ S g) : Dc w' g v s f c :=
  ⟨hw.cell h.h0 hg, hw.cell h.h1 hg, hw.cell h.h2 hg, hw.cell h.h3 hg, fun j => (hw.froz h.h0 hg ⟨g, j, none⟩ rfl).trans (h.fr j)⟩
theorem Dc.set0 (h : Dc w g v s f c) (u : Value) : Dc (w.setCell ⟨g, 0, none⟩ u) g u s f c := by
  have n1 : (⟨g, 0, none⟩ : Addr) ≠ ⟨g, 1, none⟩ := by simp
  have n2 : (⟨g, 0, none⟩ : Addr) ≠ ⟨g, 2, none⟩ := by simp
  have n3 : (⟨g, 0, none⟩ : Addr) ≠ ⟨g, 3, none⟩ := by simp
  exact ⟨World.cell?_setCell_same _ _ _ h.h0, (World.cell?_setCell_other (h := n1) ..).trans h.h1, (World.cell?_setCell_other (h := n2) ..).trans h.h2, (World.cell?_setCell_other (h := n3) ..).trans h.h3, fun j => by rw [World.frozen?_setCell]; exact h.fr j⟩
theorem Dc.set1 (h : Dc w g v s f c) (u : Int) : Dc (w.setCell ⟨g, 1, none⟩ (.int .i64 u)) g v u f c := by
  have n1 : (⟨g, 1, none⟩ : Addr) ≠ ⟨g, 0, none⟩ := by simp
  have n2 : (⟨g, 1, none⟩ : Addr) ≠ ⟨g, 2, none⟩ := by simp
  have n3 : (⟨g, 1, none⟩ : Addr) ≠ ⟨g, 3, none⟩ := by simp
  exact ⟨(World.cell?_setCell_other (h := n1) ..).trans h.h0, World.cell?_setCell_same _ _ _ h.h1, (World.cell?_setCell_other (h := n2) ..).trans h.h2, (World.cell?_setCell_other (h := n3) ..).trans h.h3, fun j => by rw [World.frozen?_setCell]; exact h.fr j⟩
theorem Dc.set2 (h : Dc w g v s f c) (u : Bool) : Dc (w.setCell ⟨g, 2, none⟩ (.bool u)) g v s u c := by
  have n1 : (⟨g, 2, none⟩ : Addr) ≠ ⟨g, 0, none⟩ := by simp
  have n2 : (⟨g, 2, none⟩ : Addr) ≠ ⟨g, 1, none⟩ := by simp
  have n3 : (⟨g, 2, none⟩ : Addr) ≠ ⟨g, 3, none⟩ := by simp
  exact ⟨(World.cell?_setCell_other (h := n1) ..).trans h.h0, (World.cell?_setCell_other (h := n2) ..).trans h.h1, World.cell?_setCell_same _ _ _ h.h2, (World.cell?_setCell_other (h := n3) ..).trans h.h3, fun j => by rw [World.frozen?_setCell]; exact h.fr j⟩
theorem Dc.set3 (h : Dc w g v s f c) (u : Int) : Dc (w.setCell ⟨g, 3, none⟩ (.int .i64 u)) g v s f u := by
  have n1 : (⟨g, 3, none⟩ : Addr) ≠ ⟨g, 0, none⟩ := by simp
  have n2 : (⟨g, 3, none⟩ : Addr) ≠ ⟨g, 1, none⟩ := by simp
  have n3 : (⟨g, 3, none⟩ : Addr) ≠ ⟨g, 2, none⟩ := by simp
  exact ⟨(World.cell?_setCell_other (h := n1) ..).trans h.h0, (World.cell?_setCell_other (h := n2) ..).trans h.h1, (World.cell?_setCell_other (h := n3) ..).trans h.h2, World.cell?_setCell_same _ _ _ h.h3, fun j => by rw [World.frozen?_setCell]; exact h.fr j⟩
end

/-- A disk at block g: its bytes l in the row v of the call's own, how many are safe, whether it fails, and behind how many calls. -/
structure Dk (w : World) (B g : Nat) (v : Value) (l : List UInt8) (s : Nat) (f : Bool) (c : Int) : Prop where
  dc : Dc w g v (s : Int) f c
  own : Own w B 5 v l
  ap : v.ownBlock ≠ some g
  hB : B ≤ g
  hs : s ≤ l.length
  hc : f = true → 0 ≤ c ∧ c ≤ 1000

/-- The blocks of a disk. -/
def DkS (g : Nat) (v : Value) : Nat → Prop := fun k => k = g ∨ v.ownBlock = some k
/-- The row is where it was, or a new one. -/
def Moved (w : World) (v v' : Value) : Prop := ∀ k, v'.ownBlock = some k → v.ownBlock = some k ∨ w.heap.size ≤ k

section
variable {w w' : World} {S : Nat → Prop} {B g : Nat} {v : Value} {l : List UInt8} {s : Nat} {c : Int} {f : Bool}
theorem Dk.only (h : Dk w B g v l s f c) (hw : Only w w' S) (hg : ∀ k, DkS g v k → ¬ S k) : Dk w' B g v l s f c :=
  ⟨h.dc.only hw (hg g (.inl rfl)), h.own.only hw fun k hk => hg k (.inr hk), h.ap, h.hB, h.hs, h.hc⟩
theorem Dk.below (h : Dk w B g v l s f c) (hb : Below w.heap.size w w') : Dk w' B g v l s f c := h.only (Only.of_below (S := fun _ => False) hb) fun _ _ => id
theorem Dk.drewN (h : Dk w B g v l s f c) (n : Nat) : Dk (w.drewN n) B g v l s f c := h.only ((Only.refl w fun _ => False).drewN n) fun _ _ => id
theorem Dk.mono (h : Dk w B g v l s f c) {b : Nat} (hb : b ≤ B) : Dk w b g v l s f c := ⟨h.dc, h.own.mono hb, h.ap, Nat.le_trans hb h.hB, h.hs, h.hc⟩
theorem Dk.ge (h : Dk w B g v l s f c) : ∀ k, DkS g v k → B ≤ k := fun k hk => by
  rcases hk with rfl | hk
  · exact h.hB
  · exact (h.own.lt k hk).1
theorem Dk.lt (h : Dk w B g v l s f c) : ∀ k, DkS g v k → k < w.heap.size := fun k hk => by
  rcases hk with rfl | hk
  · exact h.dc.lt
  · exact (h.own.lt k hk).2
theorem Moved.refl (w : World) (v : Value) : Moved w v v := fun _ h => .inl h
theorem Moved.of_eq {w : World} {v v' : Value} (h : v'.ownBlock = v.ownBlock) : Moved w v v' := fun k hk => .inl (by rw [← h]; exact hk)
theorem Moved.of_ge {w : World} {v v' : Value} (h : ∀ k, v'.ownBlock = some k → w.heap.size ≤ k) : Moved w v v' := fun k hk => .inr (h k hk)
end

/-- Does a call do as said? -/
def wk (f : Bool) (c : Int) : Bool := !f || c != 0
/-- How many more there are behind it. -/
def dn (f : Bool) (c : Int) : Int := if f = true ∧ c ≠ 0 then c - 1 else c

end Go.Proofs.YtipfhcljdginoaaDoor
