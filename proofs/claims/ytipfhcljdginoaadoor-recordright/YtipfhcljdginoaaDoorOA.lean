/-
  The acts of the trees' laws (a turn, a byte, a slice of bytes), and how a slice of them is opened.
-/
import Derived.Test.YtipfhcljdginoaaDoorOpenG
import Derived.Deep.Grids
namespace Go.Proofs.YtipfhcljdginoaaDoor
open Go.ChangeShapes Go.WideShapes Go.ChangeAt Go.RowKit Go.Joins Go.Deep

/-- An act of the trees' laws as its struct has it, and an act. -/
structure TActS where
  b : Bool
  k : Int
  A : Option Addr
  m : Nat
  c : Nat
deriving Inhabited
def tactLay : Lay TActS where
  z := 3
  cells s := [.bool s.b, .int .u8 s.k, .slice s.A s.m s.c]
  len _ := rfl
  one c u hu := by simp at hu; rcases hu with rfl | rfl | rfl <;> rfl
  pos := by omega
structure TAct where
  b : Bool
  k : Nat
  p : List UInt8
deriving Inhabited
def TActAt (w : World) (s : TActS) (x : TAct) : Prop := x.b = s.b ∧ (x.k : Int) = s.k ∧ Seg w s.A s.m x.p ∧ s.m ≤ s.c ∧ s.c ≤ maxLen ∧ x.k < 256
abbrev SegTA := SegN tactLay TActAt
theorem TActAt.below {w w' : World} (hb : Below w.heap.size w w') (s : TActS) (t : TAct) (h : TActAt w s t) : TActAt w' s t := ⟨h.1, h.2.1, h.2.2.1.below hb, h.2.2.2⟩
theorem SegTA.below {w w' : World} {A : Option Addr} {n : Nat} {L : List TAct} (h : SegTA w A n L) (hb : Below w.heap.size w w') : SegTA w' A n L := SegN.below (TActAt.below hb) h hb
theorem SegTA.at_ {w : World} {A : Option Addr} {n : Nat} {L : List TAct} (h : SegTA w A n L) {k : Nat} (hk : k < n) (x : TAct) (hx : L[k]'(by rw [h.len]; exact hk) = x) :
    ∃ g o B m c, A = some ⟨g, o, none⟩ ∧ w.cell? ⟨g, o + k * 3, none⟩ = some (.bool x.b) ∧ w.cell? ⟨g, o + k * 3 + 1, none⟩ = some (.int .u8 (x.k : Int)) ∧ w.cell? ⟨g, o + k * 3 + 2, none⟩ = some (.slice B m c) ∧
      Seg w B m x.p ∧ m ≤ c ∧ c ≤ maxLen ∧ x.k < 256 := by
  subst hx
  obtain ⟨g, o, s, e, hc, h1, h2, h3, h4, h5, h6⟩ := SegN.at_ h hk
  refine ⟨g, o, s.A, s.m, s.c, e, ?_, ?_, hc 2 _ rfl, h3, h4, h5, h6⟩
  · rw [h1]; exact hc 0 _ rfl
  · rw [h2]; exact hc 1 _ rfl

section
variable {H : Type} {enc : TypeId × Value → H} {P : Program} {W : World} {base : Nat}
theorem open_tacts {t e bs : TypeId} {f0 f1 f2 : Field} {v : Value} {d : DataW H} {p : List MemPlace} (ht : P.underlying t = some (.slice e)) (hs : P.underlying e = some (.struct #[f0, f1, f2])) (hone : oneCellFields P #[f0, f1, f2] = true) (hC : P.cellsOf e = 3)
    (h0 : P.underlying f0.type = some .bool) (h1 : P.underlying f1.type = some (.int .u8)) (h2 : P.underlying f2.type = some (.slice bs)) (hbs : P.underlying bs = some (.int .u8)) (hCb : P.cellsOf bs = 1)
    (hv : Value.okWide P W .any base t v) (h : DataW.Trod enc P W 0 (fun _ => true) true t v d p) :
    ∃ (A : Option Addr) (n c : Nat) (L : List TAct), v = .slice A n c ∧ SegTA W A n L ∧ n ≤ c ∧ c ≤ maxLen := by
  rcases open_rows ht hs hone hC hv h with ⟨_, rfl, _⟩ | ⟨a, n, c, rfl, hl, hm, hel⟩
  · exact ⟨none, 0, 0, [], rfl, SegN.nil _ _, Nat.le_refl _, Nat.zero_le _⟩
  · obtain ⟨L, hL⟩ := segN_of tactLay TActAt a n (fun i hi => by
      obtain ⟨n', hg⟩ := hel i hi
      obtain ⟨u0, y0, c0, t0⟩ := hg 0 f0 rfl
      obtain ⟨u1, y1, c1, t1⟩ := hg 1 f1 rfl
      obtain ⟨u2, y2, c2, t2⟩ := hg 2 f2 rfl
      obtain ⟨x, e0, _⟩ := DataW.trod_bool h0 t0
      obtain ⟨z, e1, _, wb⟩ := DataW.trod_int h1 t1
      obtain ⟨B, k, c, l, e2, hsB, hkc, hcm⟩ := open_bytes_cs h2 hbs hCb t2
      simp only [List.cons.injEq, and_true] at e0 e1 e2
      subst e0 e1 e2
      have bb := bounds_u8 wb
      refine ⟨⟨x, z, B, k, c⟩, ⟨x, z.toNat, l⟩, ⟨rfl, ?_, hsB, hkc, hcm, ?_⟩, fun j u hu => ?_⟩
      · show ((z.toNat : Nat) : Int) = z
        omega
      · show z.toNat < 256
        omega
      · rcases j with _ | _ | _ | j
        · have e : u = .bool x := by injection hu with hu; exact hu.symm
          rw [e]
          exact c0
        · have e : u = .int .u8 z := by injection hu with hu; exact hu.symm
          rw [e]
          exact c1
        · have e : u = .slice B k c := by injection hu with hu; exact hu.symm
          rw [e]
          exact c2
        · cases hu)
    exact ⟨some a, n, c, L, rfl, hL, hl, hm⟩
end

/-- Turns in memory. -/
def boolLay : Lay Bool where
  z := 1
  cells b := [.bool b]
  len _ := rfl
  one c u hu := by simp at hu; subst hu; rfl
  pos := by omega
theorem SegG.boolAt {w : World} {A : Option Addr} {n : Nat} {l : List Bool} (h : SegG boolLay w A n l) {k : Nat} (hk : k < n) :
    ∃ g o, A = some ⟨g, o, none⟩ ∧ w.cell? ⟨g, o + k, none⟩ = some (.bool (l[k]'(by rw [h.1]; exact hk))) := by
  obtain ⟨g, o, e, hc⟩ := SegG.at_ h hk
  refine ⟨g, o, e, ?_⟩
  have := hc 0 _ rfl
  rw [show o + k * boolLay.z + 0 = o + k from by show o + k * 1 + 0 = o + k; omega] at this
  exact this

section
variable {H : Type} {enc : TypeId × Value → H} {P : Program} {W : World} {base : Nat}
theorem open_boolL {t e : TypeId} {v : Value} {d : DataW H} {p : List MemPlace} (ht : P.underlying t = some (.slice e)) (he : P.underlying e = some .bool) (hC : P.cellsOf e = 1)
    (hv : Value.okWide P W .any base t v) (h : DataW.Trod enc P W 0 (fun _ => true) true t v d p) :
    ∃ (A : Option Addr) (n c : Nat) (l : List Bool), v = .slice A n c ∧ SegG boolLay W A n l ∧ n ≤ c ∧ c ≤ maxLen := by
  obtain ⟨a0, len0, cap0, rfl⟩ := okWide_slice ht hv
  obtain ⟨fuel, hf⟩ := h
  rcases open_bools ht he hC hf with ⟨hcs, _⟩ | ⟨x, l, c, B, hcs, _, hl, hm, _, hcell⟩
  · simp [Value.cells] at hcs
    obtain ⟨rfl, rfl, rfl⟩ := hcs
    exact ⟨none, 0, 0, [], rfl, SegG.nil _ _, Nat.le_refl _, Nat.zero_le _⟩
  · simp [Value.cells] at hcs
    obtain ⟨rfl, rfl, rfl⟩ := hcs
    refine ⟨some x, len0, cap0, (List.range len0).map B, rfl, ⟨by simp, fun hn => ?_⟩, hl, hm⟩
    obtain ⟨b, off, spot⟩ := x
    have hspot : spot = none := by simpa [Addr.add] using World.cell?_spot (hcell 0 (by omega))
    subst hspot
    refine ⟨b, off, rfl, fun j u hu => ?_⟩
    obtain ⟨k, hk, i, hi, e1, hh⟩ := cellsG_get boolLay _ j u hu
    have hi0 : i = 0 := by have : i < 1 := hi; omega
    subst hi0
    have e2 : j = k := by rw [e1]; show k * 1 + 0 = k; omega
    subst e2
    have hk' : j < len0 := by simpa using hk
    have e3 : ((List.range len0).map B)[j]'hk = B j := by simp
    rw [e3] at hh
    have e4 : u = .bool (B j) := by injection hh with hh; exact hh.symm
    have := hcell j (by omega)
    rw [addr_addG] at this
    rw [e4, this]
end

end Go.Proofs.YtipfhcljdginoaaDoor
