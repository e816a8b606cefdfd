/-
  How an argument that is a slice of slices of bytes is opened.
-/
import Derived.Test.YtipfhcljdginoaaDoorOpen
import Derived.Deep.Slices
import Derived.ChangeSame
namespace Go.Proofs.YtipfhcljdginoaaDoor
open Go.ChangeShapes Go.WideShapes Go.ChangeAt Go.RowKit Go.Joins Go.Deep

/-- The slice 'A, n' holds slices of bytes that read as the lists ls. -/
def SegL (w : World) (A : Option Addr) (n : Nat) (ls : List (List UInt8)) : Prop :=
  ls.length = n ∧ (0 < n → ∃ g o, A = some ⟨g, o, none⟩ ∧ ∀ j l, ls[j]? = some l → ∃ B m c, w.cell? ⟨g, o + j, none⟩ = some (.slice B m c) ∧ Seg w B m l ∧ m ≤ c ∧ c ≤ maxLen)

section
variable {H : Type} {enc : TypeId × Value → H} {P : Program} {W : World} {base : Nat}

theorem open_bytes_cs {t e : TypeId} {cs : List Value} {fuel : Nat} {y : DataW H × List MemPlace} (ht : P.underlying t = some (.slice e)) (he : P.underlying e = some (.int .u8)) (hC : P.cellsOf e = 1)
    (hf : DataW.trod enc P W 0 (fun _ => true) true fuel t cs = some y) :
    ∃ (A : Option Addr) (n c : Nat) (l : List UInt8), cs = [.slice A n c] ∧ Seg W A n l ∧ n ≤ c ∧ c ≤ maxLen := by
  obtain ⟨d, p⟩ := y
  rcases open_ints ht he hC hf with ⟨hcs, _⟩ | ⟨x, len0, cap0, zs, hcs, _, hl, hm, hz, _, hcell, hwz⟩
  · exact ⟨none, 0, 0, [], hcs, Seg.nil _ _, Nat.le_refl _, Nat.zero_le _⟩
  · have hzl : zs.length = cap0 := by simpa using hz
    refine ⟨some x, len0, cap0, (zs.take len0).map fun n => UInt8.ofNat n.toNat, hcs, ⟨by simp [hzl]; omega, fun hn => ?_⟩, hl, hm⟩
    obtain ⟨b, off, spot⟩ := x
    have hspot : spot = none := by simpa [Addr.add] using World.cell?_spot (hcell 0 (by omega))
    subst hspot
    refine ⟨b, off, rfl, fun j u hu => ?_⟩
    have hj : j < len0 := by
      have := (List.getElem?_eq_some_iff.1 hu).1
      simp at this
      omega
    have hcj := hcell j (by omega)
    have hadd : (⟨b, off, none⟩ : Addr).add j = ⟨b, off + j, none⟩ := by unfold Addr.add; split <;> simp_all
    rw [hadd] at hcj
    rw [hcj]
    have hjz : j < zs.length := by omega
    have hw := bounds_u8 (hwz _ (List.getElem_mem hjz))
    rw [List.getElem?_map, List.getElem?_take_of_lt hj, List.getElem?_eq_getElem hjz] at hu
    simp only [Option.map_some, Option.some.injEq] at hu
    rw [← hu, UInt8.toNat_ofNat', List.getD_eq_getElem?_getD, List.getElem?_eq_getElem hjz]
    simp only [Option.getD_some]
    congr 2
    omega

theorem open_bytess {t e b : TypeId} {v : Value} {d : DataW H} {p : List MemPlace} (ht : P.underlying t = some (.slice e)) (he : P.underlying e = some (.slice b)) (hb : P.underlying b = some (.int .u8)) (hCe : P.cellsOf e = 1) (hCb : P.cellsOf b = 1)
    (hv : Value.okWide P W .any base t v) (h : DataW.Trod enc P W 0 (fun _ => true) true t v d p) :
    ∃ (A : Option Addr) (n c : Nat) (ls : List (List UInt8)), v = .slice A n c ∧ SegL W A n ls ∧ n ≤ c ∧ c ≤ maxLen := by
  obtain ⟨a0, len0, cap0, rfl⟩ := okWide_slice ht hv
  obtain ⟨fuel, hf⟩ := h
  rcases open_slice ht hf with ⟨hcs, _⟩ | ⟨a, len, cap, m, n, D, Pl, hcs, _, hl, hm, hmm, _, hi⟩
  · simp [Value.cells] at hcs
    obtain ⟨rfl, rfl, rfl⟩ := hcs
    exact ⟨none, 0, 0, [], rfl, ⟨rfl, fun h => absurd h (by omega)⟩, Nat.le_refl _, Nat.zero_le _⟩
  · simp [Value.cells] at hcs
    obtain ⟨rfl, rfl, rfl⟩ := hcs
    have hmc : m = cap0 := by simpa using hmm
    subst hmc
    have hel : ∀ i, i < len0 → ∃ l : List UInt8, ∃ B k c, W.cell? (a.add i) = some (.slice B k c) ∧ Seg W B k l ∧ k ≤ c ∧ c ≤ maxLen := by
      intro i hil
      obtain ⟨cs', hc, ht'⟩ := hi i (by omega)
      rw [hCe, Nat.mul_one] at hc
      obtain ⟨B, k, c, l, rfl, hs, h1, h2⟩ := open_bytes_cs he hb hCb ht'
      obtain ⟨_, hcl, hat⟩ := World.cells?_some hc
      have hcell := hat 0 (by omega)
      refine ⟨l, B, k, c, ?_, hs, h1, h2⟩
      rw [← show (a.add i).add 0 = a.add i from by simp [Addr.add], hcell]
      rfl
    obtain ⟨F, hF⟩ : ∃ F : Nat → List UInt8, ∀ i, i < len0 → ∃ B k c, W.cell? (a.add i) = some (.slice B k c) ∧ Seg W B k (F i) ∧ k ≤ c ∧ c ≤ maxLen := by
      classical
      refine ⟨fun i => if hi : i < len0 then Classical.choose (hel i hi) else [], fun i hi => ?_⟩
      simp only [dif_pos hi]
      exact Classical.choose_spec (hel i hi)
    refine ⟨some a, len0, m, (List.range len0).map F, rfl, ⟨by simp, fun hn => ?_⟩, hl, hm⟩
    obtain ⟨b, off, spot⟩ := a
    have hspot : spot = none := by
      obtain ⟨B, k, c, h0, _⟩ := hF 0 hn
      simpa [Addr.add] using World.cell?_spot h0
    subst hspot
    have hadd : ∀ j, (⟨b, off, none⟩ : Addr).add j = ⟨b, off + j, none⟩ := fun j => by
      unfold Addr.add
      split
      · subst j; rfl
      · rfl
    refine ⟨b, off, rfl, fun j l hl' => ?_⟩
    have hj : j < len0 := by
      have := (List.getElem?_eq_some_iff.1 hl').1
      simpa using this
    obtain ⟨B, k, c, h0, h1⟩ := hF j hj
    rw [hadd] at h0
    have e : F j = l := by simpa [hj] using hl'
    rw [e] at h1
    exact ⟨B, k, c, h0, h1⟩
end

end Go.Proofs.YtipfhcljdginoaaDoor
