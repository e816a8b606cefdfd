/-
  How an argument that is a slice of structs of any one-cell fields is opened; the acts of the disk's laws (a byte, a number, a slice of bytes).
-/
import Derived.Test.YtipfhcljdginoaaDoorOpen
import Derived.Test.YtipfhcljdginoaaDoorOpenL
import Derived.Test.YtipfhcljdginoaaDoorMemT
import Derived.Deep.Slices
import Derived.Deep.Fields
import Derived.ChangeSame
namespace Go.Proofs.YtipfhcljdginoaaDoor
open Go.ChangeShapes Go.WideShapes Go.ChangeAt Go.RowKit Go.Joins Go.Deep

section
variable {H : Type} {enc : TypeId × Value → H} {P : Program} {W : World} {base : Nat}

/-- The cells of a slice of structs, field by field. -/
theorem open_rows {t e : TypeId} {fs : Array Field} {v : Value} {d : DataW H} {p : List MemPlace} (ht : P.underlying t = some (.slice e)) (hs : P.underlying e = some (.struct fs)) (hone : oneCellFields P fs = true) (hC : P.cellsOf e = fs.size)
    (hv : Value.okWide P W .any base t v) (h : DataW.Trod enc P W 0 (fun _ => true) true t v d p) :
    (∃ c, v = .slice none 0 0 ∧ c = 0) ∨ ∃ a n c, v = .slice (some a) n c ∧ n ≤ c ∧ c ≤ maxLen ∧ ∀ i, i < n → ∃ n', ∀ (j : Nat) (f : Field), fs[j]? = some f →
      ∃ (u : Value) (y : DataW H × List MemPlace), W.cell? (a.add (i * fs.size + j)) = some u ∧ DataW.trod enc P W 0 (fun _ => true) true n' f.type [u] = some y := by
  obtain ⟨a0, len0, cap0, rfl⟩ := okWide_slice ht hv
  obtain ⟨fuel, hf⟩ := h
  rcases open_slice ht hf with ⟨hcs, _⟩ | ⟨a, len, cap, m, n, D, Pl, hcs, _, hl, hm, hmm, _, hi⟩
  · simp [Value.cells] at hcs
    obtain ⟨rfl, rfl, rfl⟩ := hcs
    exact .inl ⟨0, rfl, rfl⟩
  · simp [Value.cells] at hcs
    obtain ⟨rfl, rfl, rfl⟩ := hcs
    have hmc : m = cap0 := by simpa using hmm
    subst hmc
    refine .inr ⟨a, len0, m, rfl, hl, hm, fun i hil => ?_⟩
    obtain ⟨cs', hc, ht'⟩ := hi i (by omega)
    rw [hC] at hc
    obtain ⟨ys, n', hn', hy, hlen, hyl, hf'⟩ := DataW.trod_struct hs ht'
    obtain ⟨_, hcl, hat⟩ := World.cells?_some hc
    refine ⟨n', fun j f hj => ?_⟩
    obtain ⟨ho, hk⟩ := hone_of hone j f hj
    have hjl : j < fs.size := (Array.getElem?_eq_some_iff.1 hj).1
    have hcell := hat j hjl
    have h1 := hf' j f hj
    rw [ho, hk] at h1
    have hone' : (cs'.drop j).take 1 = [cs'[j]'(by omega)] := by
      rw [List.drop_eq_getElem_cons (by omega)]
      rfl
    rw [hone'] at h1
    have hyl' : ys.length = fs.size := by simpa using hyl
    have hys : ys[j]? = some (ys[j]'(by omega)) := List.getElem?_eq_getElem (by omega)
    refine ⟨_, _, ?_, h1.trans hys⟩
    rw [← Go.Deep.add_add, hcell, List.getElem?_eq_getElem (by omega)]

theorem addr_addG (b off j : Nat) : (⟨b, off, none⟩ : Addr).add j = ⟨b, off + j, none⟩ := by
  unfold Addr.add
  split
  · subst j; rfl
  · rfl

/-- Elements that are found one by one make a list. -/
theorem segN_of {α β : Type} [Inhabited α] [Inhabited β] (Y : Lay α) (R : World → α → β → Prop) (a : Addr) (n : Nat) (h : ∀ i, i < n → ∃ (s : α) (x : β), R W s x ∧ ∀ j u, (Y.cells s)[j]? = some u → W.cell? (a.add (i * Y.z + j)) = some u) :
    ∃ L : List β, SegN Y R W (some a) n L := by
  obtain ⟨F, hF⟩ : ∃ F : Nat → α × β, ∀ i, i < n → R W (F i).1 (F i).2 ∧ ∀ j u, (Y.cells (F i).1)[j]? = some u → W.cell? (a.add (i * Y.z + j)) = some u := by
    classical
    refine ⟨fun i => if hi : i < n then ⟨Classical.choose (h i hi), Classical.choose (Classical.choose_spec (h i hi))⟩ else ⟨default, default⟩, fun i hi => ?_⟩
    simp only [dif_pos hi]
    exact Classical.choose_spec (Classical.choose_spec (h i hi))
  refine ⟨(List.range n).map fun i => (F i).2, (List.range n).map fun i => (F i).1, ⟨by simp, fun hn => ?_⟩, by simp, ?_⟩
  · obtain ⟨b, off, spot⟩ := a
    have hz : (Y.cells (F 0).1)[0]? = some ((Y.cells (F 0).1)[0]'(by rw [Y.len]; exact Y.pos)) := List.getElem?_eq_getElem (by rw [Y.len]; exact Y.pos)
    have hspot : spot = none := by
      have := World.cell?_spot ((hF 0 hn).2 0 _ hz)
      simpa [Addr.add] using this
    subst hspot
    refine ⟨b, off, rfl, fun j u hu => ?_⟩
    obtain ⟨k, hk, i, hi2, rfl, hh⟩ := cellsG_get _ _ j u hu
    have hk' : k < n := by simpa using hk
    have eg : ((List.range n).map fun i => (F i).1)[k]'hk = (F k).1 := by simp
    rw [eg] at hh
    have := (hF k hk').2 i u hh
    rw [addr_addG] at this
    exact this
  · intro i s x hs' hx'
    have hi : i < n := by
      have := (List.getElem?_eq_some_iff.1 hs').1
      simpa using this
    have e1 : (F i).1 = s := by simpa [hi] using hs'
    have e2 : (F i).2 = x := by simpa [hi] using hx'
    rw [← e1, ← e2]
    exact (hF i hi).1
end

/-- An act of the disk's laws as its struct has it, and an act. -/
structure DActS where
  d : Int
  n : Int
  A : Option Addr
  m : Nat
  c : Nat
deriving Inhabited
def dactLay : Lay DActS where
  z := 3
  cells s := [.int .u8 s.d, .int .i64 s.n, .slice s.A s.m s.c]
  len _ := rfl
  one c u hu := by simp at hu; rcases hu with rfl | rfl | rfl <;> rfl
  pos := by omega
structure DAct where
  d : Nat
  n : Int
  p : List UInt8
deriving Inhabited
def DActAt (w : World) (s : DActS) (x : DAct) : Prop := (x.d : Int) = s.d ∧ x.n = s.n ∧ Seg w s.A s.m x.p ∧ s.m ≤ s.c ∧ s.c ≤ maxLen ∧ x.d < 256 ∧ -9223372036854775808 ≤ x.n ∧ x.n ≤ 9223372036854775807
abbrev SegDA := SegN dactLay DActAt
theorem DActAt.below {w w' : World} (hb : Below w.heap.size w w') (s : DActS) (t : DAct) (h : DActAt w s t) : DActAt w' s t := ⟨h.1, h.2.1, h.2.2.1.below hb, h.2.2.2⟩
theorem SegDA.below {w w' : World} {A : Option Addr} {n : Nat} {L : List DAct} (h : SegDA w A n L) (hb : Below w.heap.size w w') : SegDA w' A n L := SegN.below (DActAt.below hb) h hb
theorem SegDA.at_ {w : World} {A : Option Addr} {n : Nat} {L : List DAct} (h : SegDA w A n L) {k : Nat} (hk : k < n) (x : DAct) (hx : L[k]'(by rw [h.len]; exact hk) = x) :
    ∃ g o B m c, A = some ⟨g, o, none⟩ ∧ w.cell? ⟨g, o + k * 3, none⟩ = some (.int .u8 (x.d : Int)) ∧ w.cell? ⟨g, o + k * 3 + 1, none⟩ = some (.int .i64 x.n) ∧ w.cell? ⟨g, o + k * 3 + 2, none⟩ = some (.slice B m c) ∧
      Seg w B m x.p ∧ m ≤ c ∧ c ≤ maxLen ∧ x.d < 256 ∧ -9223372036854775808 ≤ x.n ∧ x.n ≤ 9223372036854775807 := by
  subst hx
  obtain ⟨g, o, s, e, hc, h1, h2, h3, h4, h5, h6⟩ := SegN.at_ h hk
  refine ⟨g, o, s.A, s.m, s.c, e, ?_, ?_, hc 2 _ rfl, h3, h4, h5, h6⟩
  · rw [h1]; exact hc 0 _ rfl
  · rw [h2]; exact hc 1 _ rfl

section
variable {H : Type} {enc : TypeId × Value → H} {P : Program} {W : World} {base : Nat}
theorem open_dacts {t e bs : TypeId} {f0 f1 f2 : Field} {v : Value} {d : DataW H} {p : List MemPlace} (ht : P.underlying t = some (.slice e)) (hs : P.underlying e = some (.struct #[f0, f1, f2])) (hone : oneCellFields P #[f0, f1, f2] = true) (hC : P.cellsOf e = 3)
    (h0 : P.underlying f0.type = some (.int .u8)) (h1 : P.underlying f1.type = some (.int .i64)) (h2 : P.underlying f2.type = some (.slice bs)) (hbs : P.underlying bs = some (.int .u8)) (hCb : P.cellsOf bs = 1)
    (hv : Value.okWide P W .any base t v) (h : DataW.Trod enc P W 0 (fun _ => true) true t v d p) :
    ∃ (A : Option Addr) (n c : Nat) (L : List DAct), v = .slice A n c ∧ SegDA W A n L ∧ n ≤ c ∧ c ≤ maxLen := by
  rcases open_rows ht hs hone hC hv h with ⟨_, rfl, _⟩ | ⟨a, n, c, rfl, hl, hm, hel⟩
  · exact ⟨none, 0, 0, [], rfl, SegN.nil _ _, Nat.le_refl _, Nat.zero_le _⟩
  · obtain ⟨L, hL⟩ := segN_of dactLay DActAt a n (fun i hi => by
      obtain ⟨n', hg⟩ := hel i hi
      obtain ⟨u0, y0, c0, t0⟩ := hg 0 f0 rfl
      obtain ⟨u1, y1, c1, t1⟩ := hg 1 f1 rfl
      obtain ⟨u2, y2, c2, t2⟩ := hg 2 f2 rfl
      obtain ⟨x, e0, _, wa⟩ := DataW.trod_int h0 t0
      obtain ⟨z, e1, _, wb⟩ := DataW.trod_int h1 t1
      obtain ⟨B, k, c, l, e2, hsB, hkc, hcm⟩ := open_bytes_cs h2 hbs hCb t2
      simp only [List.cons.injEq, and_true] at e0 e1 e2
      subst e0 e1 e2
      have ba := bounds_u8 wa
      have bb := bounds_i64 wb
      refine ⟨⟨x, z, B, k, c⟩, ⟨x.toNat, z, l⟩, ⟨?_, rfl, hsB, hkc, hcm, ?_, bb.1, bb.2⟩, fun j u hu => ?_⟩
      · show ((x.toNat : Nat) : Int) = x
        omega
      · show x.toNat < 256
        omega
      · rcases j with _ | _ | _ | j
        · have e : u = .int .u8 x := by injection hu with hu; exact hu.symm
          rw [e]
          exact c0
        · have e : u = .int .i64 z := by injection hu with hu; exact hu.symm
          rw [e]
          exact c1
        · have e : u = .slice B k c := by injection hu with hu; exact hu.symm
          rw [e]
          exact c2
        · cases hu)
    exact ⟨some a, n, c, L, rfl, hL, hl, hm⟩
end

end Go.Proofs.YtipfhcljdginoaaDoor
