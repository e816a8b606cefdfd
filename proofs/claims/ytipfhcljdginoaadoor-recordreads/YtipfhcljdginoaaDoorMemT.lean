/-
  Tables, columns and forms in memory.
-/
import Derived.Test.YtipfhcljdginoaaDoorMemG
import Derived.Test.YtipfhcljdginoaaDoorProg
namespace Go.Proofs.YtipfhcljdginoaaDoor
open Go.RowKit

/-- A column: its name, its kind, may it be nothing. -/
structure Col where
  s : ByteArray
  k : Int
  b : Bool
def colLay : Lay Col where
  z := 3
  cells c := [.string c.s, .int .u8 c.k, .bool c.b]
  len _ := rfl
  one c u hu := by simp at hu; rcases hu with rfl | rfl | rfl <;> rfl
  pos := by omega
/-- A table as its struct has it: its name, where its columns lie, how many are its key. -/
structure TblS where
  s : ByteArray
  A : Option Addr
  n : Nat
  c : Nat
  k : Int
def tblLay : Lay TblS where
  z := 3
  cells t := [.string t.s, .slice t.A t.n t.c, .int .i64 t.k]
  len _ := rfl
  one c u hu := by simp at hu; rcases hu with rfl | rfl | rfl <;> rfl
  pos := by omega
/-- A table. -/
structure Tbl where
  s : ByteArray
  cols : List Col
  k : Int
/-- A form as its struct has it, and a form. -/
structure FrmS where
  A : Option Addr
  n : Nat
  c : Nat
  k : Int
def frmLay : Lay FrmS where
  z := 2
  cells t := [.slice t.A t.n t.c, .int .u8 t.k]
  len _ := rfl
  one c u hu := by simp at hu; rcases hu with rfl | rfl <;> rfl
  pos := by omega
structure Frm where
  cols : List UInt8
  k : Int

/-- Elements that lead on to others: the structs S lie in the row, and each stands for one of L. -/
def SegN {α β : Type} (Y : Lay α) (R : World → α → β → Prop) (w : World) (A : Option Addr) (n : Nat) (L : List β) : Prop :=
  ∃ S : List α, SegG Y w A n S ∧ S.length = L.length ∧ ∀ (i : Nat) (s : α) (t : β), S[i]? = some s → L[i]? = some t → R w s t
section
variable {α β : Type} {Y : Lay α} {R : World → α → β → Prop} {w w' : World} {A : Option Addr} {n : Nat} {L : List β}
theorem SegN.len (h : SegN Y R w A n L) : L.length = n := by
  obtain ⟨S, h1, h2, _⟩ := h
  rw [← h2, h1.1]
theorem SegN.nil (w : World) (A : Option Addr) : SegN Y R w A 0 [] := ⟨[], SegG.nil _ _, rfl, fun i s t h => by cases h⟩
theorem SegN.below (hR : ∀ s t, R w s t → R w' s t) (h : SegN Y R w A n L) (hb : Below w.heap.size w w') : SegN Y R w' A n L := by
  obtain ⟨S, h1, h2, h3⟩ := h
  exact ⟨S, h1.below hb, h2, fun i s t hs ht => hR s t (h3 i s t hs ht)⟩
theorem SegN.at_ (h : SegN Y R w A n L) {k : Nat} (hk : k < n) :
    ∃ g o s, A = some ⟨g, o, none⟩ ∧ (∀ j u, (Y.cells s)[j]? = some u → w.cell? ⟨g, o + k * Y.z + j, none⟩ = some u) ∧ R w s (L[k]'(by rw [h.len]; exact hk)) := by
  have hl := h.len
  obtain ⟨S, h1, h2, h3⟩ := h
  obtain ⟨g, o, e, hc⟩ := h1.at_ hk
  have hS : k < S.length := by rw [h1.1]; exact hk
  exact ⟨g, o, S[k], e, hc, h3 k _ _ (List.getElem?_eq_getElem hS) (List.getElem?_eq_getElem (by rw [hl]; exact hk))⟩
end

abbrev SegC := SegG colLay
def TblAt (w : World) (s : TblS) (t : Tbl) : Prop := t.s = s.s ∧ t.k = s.k ∧ SegC w s.A s.n t.cols ∧ s.n ≤ s.c ∧ s.c ≤ maxLen
def FrmAt (w : World) (s : FrmS) (t : Frm) : Prop := t.k = s.k ∧ Seg w s.A s.n t.cols ∧ s.n ≤ s.c ∧ s.c ≤ maxLen ∧ 0 ≤ t.k ∧ t.k ≤ 255
abbrev SegT := SegN tblLay TblAt
abbrev SegF := SegN frmLay FrmAt
theorem TblAt.below {w w' : World} (hb : Below w.heap.size w w') (s : TblS) (t : Tbl) (h : TblAt w s t) : TblAt w' s t := ⟨h.1, h.2.1, h.2.2.1.below hb, h.2.2.2⟩
theorem FrmAt.below {w w' : World} (hb : Below w.heap.size w w') (s : FrmS) (t : Frm) (h : FrmAt w s t) : FrmAt w' s t := ⟨h.1, h.2.1.below hb, h.2.2⟩
theorem SegT.below {w w' : World} {A : Option Addr} {n : Nat} {L : List Tbl} (h : SegT w A n L) (hb : Below w.heap.size w w') : SegT w' A n L := SegN.below (TblAt.below hb) h hb
theorem SegF.below {w w' : World} {A : Option Addr} {n : Nat} {L : List Frm} (h : SegF w A n L) (hb : Below w.heap.size w w') : SegF w' A n L := SegN.below (FrmAt.below hb) h hb
theorem SegC.at_ {w : World} {A : Option Addr} {n : Nat} {l : List Col} (h : SegC w A n l) {k : Nat} (hk : k < n) :
    ∃ g o, A = some ⟨g, o, none⟩ ∧ w.cell? ⟨g, o + k * 3, none⟩ = some (.string (l[k]'(by rw [h.1]; exact hk)).s) ∧ w.cell? ⟨g, o + k * 3 + 1, none⟩ = some (.int .u8 (l[k]'(by rw [h.1]; exact hk)).k) ∧ w.cell? ⟨g, o + k * 3 + 2, none⟩ = some (.bool (l[k]'(by rw [h.1]; exact hk)).b) := by
  obtain ⟨g, o, e, hc⟩ := SegG.at_ h hk
  exact ⟨g, o, e, hc 0 _ rfl, hc 1 _ rfl, hc 2 _ rfl⟩
theorem SegT.at_ {w : World} {A : Option Addr} {n : Nat} {L : List Tbl} (h : SegT w A n L) {k : Nat} (hk : k < n) :
    ∃ g o B m c, A = some ⟨g, o, none⟩ ∧ w.cell? ⟨g, o + k * 3, none⟩ = some (.string (L[k]'(by rw [h.len]; exact hk)).s) ∧ w.cell? ⟨g, o + k * 3 + 1, none⟩ = some (.slice B m c) ∧ w.cell? ⟨g, o + k * 3 + 2, none⟩ = some (.int .i64 (L[k]'(by rw [h.len]; exact hk)).k) ∧
      SegC w B m (L[k]'(by rw [h.len]; exact hk)).cols ∧ m ≤ c ∧ c ≤ maxLen := by
  obtain ⟨g, o, s, e, hc, h1, h2, h3, h4, h5⟩ := SegN.at_ h hk
  refine ⟨g, o, s.A, s.n, s.c, e, ?_, hc 1 _ rfl, ?_, h3, h4, h5⟩
  · rw [h1]; exact hc 0 _ rfl
  · rw [h2]; exact hc 2 _ rfl
theorem SegF.at_ {w : World} {A : Option Addr} {n : Nat} {L : List Frm} (h : SegF w A n L) {k : Nat} (hk : k < n) :
    ∃ g o B m c, A = some ⟨g, o, none⟩ ∧ w.cell? ⟨g, o + k * 2, none⟩ = some (.slice B m c) ∧ w.cell? ⟨g, o + k * 2 + 1, none⟩ = some (.int .u8 (L[k]'(by rw [h.len]; exact hk)).k) ∧
      Seg w B m (L[k]'(by rw [h.len]; exact hk)).cols ∧ m ≤ c ∧ c ≤ maxLen ∧ 0 ≤ (L[k]'(by rw [h.len]; exact hk)).k ∧ (L[k]'(by rw [h.len]; exact hk)).k ≤ 255 := by
  obtain ⟨g, o, s, e, hc, h1, h2, h3, h4, h5⟩ := SegN.at_ h hk
  refine ⟨g, o, s.A, s.n, s.c, e, hc 0 _ rfl, ?_, h2, h3, h4, h5⟩
  rw [h1]; exact hc 1 _ rfl

end Go.Proofs.YtipfhcljdginoaaDoor
