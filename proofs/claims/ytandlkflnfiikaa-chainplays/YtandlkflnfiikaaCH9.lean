/-
  A chain and the document's side by side ('Tw').
-/
import Derived.Test.YtandlkflnfiikaaCH8
namespace Go.Proofs.Ytandlkflnfiikaa
open Go.RowKit

/-- A chain, and the document's in a box of two cells at gm; they are of one mind. -/
structure Tw (w : World) (B g gm : Nat) (v : Value) (S : List VerS) (A : Option Addr) (n c : Nat) (S2 : List VerS) (L : List Ver) (last : Int) : Prop where
  ch : Ch w B g v S (L.map strip) last
  m0 : w.cell? ⟨gm, 0, none⟩ = some (.slice A n c)
  m1 : w.cell? ⟨gm, 1, none⟩ = some (.int .i64 last)
  mf : ∀ j, w.frozen? ⟨gm, j, none⟩ = false
  md : Md w A n c S2 L
  ap : ∀ k, MdS A n S2 k → ¬ ChS g v S k ∧ k ≠ gm
  hm : ¬ ChS g v S gm
  hB : B ≤ gm
  asc : Asc L last
section
variable {w w' : World} {B g gm : Nat} {v v' : Value} {S S' S2 S2' : List VerS} {A A' : Option Addr} {n c n' c' : Nat} {L L' : List Ver} {last last' : Int}
theorem Tw.lt (h : Tw w B g gm v S A n c S2 L last) : gm < w.heap.size := World.block_lt_of_cell? w _ h.m0
theorem Tw.below (h : Tw w B g gm v S A n c S2 L last) (hb : Below w.heap.size w w') : Tw w' B g gm v S A n c S2 L last :=
  ⟨h.ch.below hb, cell_below hb h.m0, cell_below hb h.m1, fun j => ((bcell hb).2 gm j h.lt).trans (h.mf j), h.md.below hb, h.ap, h.hm, h.hB, h.asc⟩
theorem Tw.alloc (h : Tw w B g gm v S A n c S2 L last) (o : Obj) : Tw (w.alloc o) B g gm v S A n c S2 L last := h.below ((Below.refl _ _).alloc (Nat.le_refl _) _)
theorem Tw.drewN (h : Tw w B g gm v S A n c S2 L last) (k : Nat) : Tw (w.drewN k) B g gm v S A n c S2 L last :=
  ⟨h.ch.drewN k, h.m0, h.m1, h.mf, ⟨h.md.seg, h.md.rows, h.md.nc, h.md.cm⟩, h.ap, h.hm, h.hB, h.asc⟩
theorem only_two (w : World) (g : Nat) (u x : Value) : Only w ((w.setCell ⟨g, 0, none⟩ u).setCell ⟨g, 1, none⟩ x) (fun k => k = g) :=
  ((Only.refl w (fun k => k = g)).setCell ⟨g, 0, none⟩ u fun _ => rfl).setCell ⟨g, 1, none⟩ x fun _ => rfl
/-- The document goes on (w1), its answer is laid in its box, then the chain goes on. -/
theorem Tw.move {w1 w2 w3 : World} (h : Tw w B g gm v S A n c S2 L last) (hb : Below w.heap.size w w1) (hmd : Md w1 A' n' c' S2' L') (hms : ∀ k, MdS A' n' S2' k → w.heap.size ≤ k ∨ MdS A n S2 k)
    (hw2 : w2 = (w1.setCell ⟨gm, 0, none⟩ (.slice A' n' c')).setCell ⟨gm, 1, none⟩ (.int .i64 last')) (hasc : Asc L' last')
    (hch : Ch w3 B g v' S' (L'.map strip) last') (ho : Only w2 w3 (DkS g v)) (hs : ∀ k, ChS g v' S' k → ChS g v S k ∨ w2.heap.size ≤ k) :
    Tw w3 B g gm v' S' A' n' c' S2' L' last' := by
  subst hw2
  have hlt := h.lt
  have hsz : ((w1.setCell ⟨gm, 0, none⟩ (.slice A' n' c')).setCell ⟨gm, 1, none⟩ (.int .i64 last')).heap.size = w1.heap.size := by simp [World.setCell]
  have h10 := cell_below hb h.m0
  have h11 := cell_below hb h.m1
  have hms' : ∀ k, MdS A' n' S2' k → ¬ ChS g v S k ∧ k ≠ gm := fun k hk => by
    rcases hms k hk with h1 | h1
    · exact ⟨fun hc => by have := h.ch.lt k hc; omega, by omega⟩
    · exact h.ap k h1
  have hot := only_two w1 gm (.slice A' n' c') (.int .i64 last')
  have hgm : ¬ DkS g v gm := fun hk => h.hm (.inl hk)
  have n1 : (⟨gm, 0, none⟩ : Addr) ≠ ⟨gm, 1, none⟩ := by simp
  have n2 : (⟨gm, 1, none⟩ : Addr) ≠ ⟨gm, 0, none⟩ := by simp
  have c0 : ((w1.setCell ⟨gm, 0, none⟩ (.slice A' n' c')).setCell ⟨gm, 1, none⟩ (.int .i64 last')).cell? ⟨gm, 0, none⟩ = some (.slice A' n' c') :=
    (World.cell?_setCell_other (h := n2) ..).trans (World.cell?_setCell_same _ _ _ h10)
  have c1 : ((w1.setCell ⟨gm, 0, none⟩ (.slice A' n' c')).setCell ⟨gm, 1, none⟩ (.int .i64 last')).cell? ⟨gm, 1, none⟩ = some (.int .i64 last') :=
    World.cell?_setCell_same _ _ _ ((World.cell?_setCell_other (h := n1) ..).trans h11)
  refine ⟨hch, ho.cell c0 hgm, ho.cell c1 hgm, fun j => ?_, (hmd.only hot fun k hk e => (hms' k hk).2 e).only ho fun k hk e => (hms' k hk).1 (.inl e), fun k hk => ⟨fun hc => ?_, (hms' k hk).2⟩, fun hc => ?_, h.hB, hasc⟩
  · rw [ho.froz c0 hgm ⟨gm, j, none⟩ rfl, World.frozen?_setCell, World.frozen?_setCell]
    exact ((bcell hb).2 gm j hlt).trans (h.mf j)
  · rcases hs k hc with h1 | h1
    · exact (hms' k hk).1 h1
    · have := hmd.lt k hk
      omega
  · rcases hs gm hc with h1 | h1
    · exact h.hm h1
    · have := hb.size
      omega
theorem Tw.get (h : Tw w B g gm v S A n c S2 L last) (hl : L.length ≤ 1000) (hr : ∀ x ∈ L, x.row.length ≤ 30) (t : Int) :
    Calls Try.prog 15 #[.pointer (some ⟨g, 0, none⟩), .int .i64 t] w fun e w' => ∃ B' m d, e = .returned (.tuple #[.slice B' m d, .bool (getV L t).2]) ∧ Seg w' B' m (getV L t).1 ∧ m ≤ maxLen ∧ Below w.heap.size w w' := by
  have hg := cget_any h.ch (by simp; omega) (fun x hx => by
    obtain ⟨y, hy, rfl⟩ := List.mem_map.1 hx
    have := hr y hy
    unfold strip
    split
    · simp
    · omega) t
  rw [getV_map] at hg
  refine hg.mono ?_
  rintro e w' ⟨u, rfl, ho, hb⟩
  obtain ⟨B', d, rfl, hs, hm, hd⟩ := ho.forms
  exact ⟨B', _, d, rfl, hs, by omega, hb⟩
end

end Go.Proofs.Ytandlkflnfiikaa
