/-
  The acts of the log's laws (a byte, a slice of bytes, a byte), and how a slice of them is opened.
-/
import Derived.Test.YtkmcnkonkalfkaaDoorOpenG
namespace Go.Proofs.YtkmcnkonkalfkaaDoor
open Go.ChangeShapes Go.WideShapes Go.ChangeAt Go.RowKit Go.Joins Go.Deep

/-- An act of the log's laws as its struct has it, and an act. -/
structure WActS where
  d : Int
  A : Option Addr
  m : Nat
  c : Nat
  k : Int
deriving Inhabited
def wactLay : Lay WActS where
  z := 3
  cells s := [.int .u8 s.d, .slice s.A s.m s.c, .int .u8 s.k]
  len _ := rfl
  one c u hu := by simp at hu; rcases hu with rfl | rfl | rfl <;> rfl
  pos := by omega
structure WAct where
  d : Nat
  p : List UInt8
  k : Nat
deriving Inhabited
def WActAt (w : World) (s : WActS) (x : WAct) : Prop := (x.d : Int) = s.d ∧ (x.k : Int) = s.k ∧ Seg w s.A s.m x.p ∧ s.m ≤ s.c ∧ s.c ≤ maxLen ∧ x.d < 256 ∧ x.k < 256
abbrev SegWA := SegN wactLay WActAt
theorem WActAt.below {w w' : World} (hb : Below w.heap.size w w') (s : WActS) (t : WAct) (h : WActAt w s t) : WActAt w' s t := ⟨h.1, h.2.1, h.2.2.1.below hb, h.2.2.2⟩
theorem SegWA.below {w w' : World} {A : Option Addr} {n : Nat} {L : List WAct} (h : SegWA w A n L) (hb : Below w.heap.size w w') : SegWA w' A n L := SegN.below (WActAt.below hb) h hb
theorem SegWA.at_ {w : World} {A : Option Addr} {n : Nat} {L : List WAct} (h : SegWA w A n L) {k : Nat} (hk : k < n) (x : WAct) (hx : L[k]'(by rw [h.len]; exact hk) = x) :
    ∃ g o B m c, A = some ⟨g, o, none⟩ ∧ w.cell? ⟨g, o + k * 3, none⟩ = some (.int .u8 (x.d : Int)) ∧ w.cell? ⟨g, o + k * 3 + 1, none⟩ = some (.slice B m c) ∧ w.cell? ⟨g, o + k * 3 + 2, none⟩ = some (.int .u8 (x.k : Int)) ∧
      Seg w B m x.p ∧ m ≤ c ∧ c ≤ maxLen ∧ x.d < 256 ∧ x.k < 256 := by
  subst hx
  obtain ⟨g, o, s, e, hc, h1, h2, h3, h4, h5, h6⟩ := SegN.at_ h hk
  refine ⟨g, o, s.A, s.m, s.c, e, ?_, hc 1 _ rfl, ?_, h3, h4, h5, h6⟩
  · rw [h1]; exact hc 0 _ rfl
  · rw [h2]; exact hc 2 _ rfl

section
variable {H : Type} {enc : TypeId × Value → H} {P : Program} {W : World} {base : Nat}
theorem open_wacts {t e bs : TypeId} {f0 f1 f2 : Field} {v : Value} {d : DataW H} {p : List MemPlace} (ht : P.underlying t = some (.slice e)) (hs : P.underlying e = some (.struct #[f0, f1, f2])) (hone : oneCellFields P #[f0, f1, f2] = true) (hC : P.cellsOf e = 3)
    (h0 : P.underlying f0.type = some (.int .u8)) (h1 : P.underlying f1.type = some (.slice bs)) (hbs : P.underlying bs = some (.int .u8)) (hCb : P.cellsOf bs = 1) (h2 : P.underlying f2.type = some (.int .u8))
    (hv : Value.okWide P W .any base t v) (h : DataW.Trod enc P W 0 (fun _ => true) true t v d p) :
    ∃ (A : Option Addr) (n c : Nat) (L : List WAct), v = .slice A n c ∧ SegWA W A n L ∧ n ≤ c ∧ c ≤ maxLen := by
  rcases open_rows ht hs hone hC hv h with ⟨_, rfl, _⟩ | ⟨a, n, c, rfl, hl, hm, hel⟩
  · exact ⟨none, 0, 0, [], rfl, SegN.nil _ _, Nat.le_refl _, Nat.zero_le _⟩
  · obtain ⟨L, hL⟩ := segN_of wactLay WActAt a n (fun i hi => by
      obtain ⟨n', hg⟩ := hel i hi
      obtain ⟨u0, y0, c0, t0⟩ := hg 0 f0 rfl
      obtain ⟨u1, y1, c1, t1⟩ := hg 1 f1 rfl
      obtain ⟨u2, y2, c2, t2⟩ := hg 2 f2 rfl
      obtain ⟨x, e0, _, wa⟩ := DataW.trod_int h0 t0
      obtain ⟨B, k, c, l, e1, hsB, hkc, hcm⟩ := open_bytes_cs h1 hbs hCb t1
      obtain ⟨z, e2, _, wb⟩ := DataW.trod_int h2 t2
      simp only [List.cons.injEq, and_true] at e0 e1 e2
      subst e0 e1 e2
      have ba := bounds_u8 wa
      have bb := bounds_u8 wb
      refine ⟨⟨x, B, k, c, z⟩, ⟨x.toNat, l, z.toNat⟩, ⟨?_, ?_, hsB, hkc, hcm, ?_, ?_⟩, fun j u hu => ?_⟩
      · show ((x.toNat : Nat) : Int) = x
        omega
      · show ((z.toNat : Nat) : Int) = z
        omega
      · show x.toNat < 256
        omega
      · show z.toNat < 256
        omega
      · rcases j with _ | _ | _ | j
        · have e : u = .int .u8 x := by injection hu with hu; exact hu.symm
          rw [e]
          exact c0
        · have e : u = .slice B k c := by injection hu with hu; exact hu.symm
          rw [e]
          exact c1
        · have e : u = .int .u8 z := by injection hu with hu; exact hu.symm
          rw [e]
          exact c2
        · cases hu)
    exact ⟨some a, n, c, L, rfl, hL, hl, hm⟩
end

end Go.Proofs.YtkmcnkonkalfkaaDoor
