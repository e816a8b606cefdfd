/-
  How an argument that is a slice of texts is opened.
-/
import Derived.Test.YtipfhcljdginoaaDoorOpenG
import Derived.Deep.Strs
namespace Go.Proofs.YtipfhcljdginoaaDoor
open Go.ChangeShapes Go.WideShapes Go.ChangeAt Go.RowKit Go.Joins Go.Deep

def strLay : Lay ByteArray where
  z := 1
  cells b := [.string b]
  len _ := rfl
  one c u hu := by simp at hu; rcases hu with rfl; rfl
  pos := by omega
theorem SegG.strAt {w : World} {A : Option Addr} {n : Nat} {l : List ByteArray} (h : SegG strLay w A n l) {k : Nat} (hk : k < n) :
    ∃ g o, A = some ⟨g, o, none⟩ ∧ w.cell? ⟨g, o + k, none⟩ = some (.string (l[k]'(by rw [h.1]; exact hk))) := by
  obtain ⟨g, o, e, hc⟩ := h.at_ hk
  have := hc 0 _ rfl
  rw [show o + k * strLay.z + 0 = o + k from by show o + k * 1 + 0 = o + k; omega] at this
  exact ⟨g, o, e, this⟩

section
variable {H : Type} {enc : TypeId × Value → H} {P : Program} {W : World} {base : Nat}
theorem open_strL {t e : TypeId} {v : Value} {d : DataW H} {p : List MemPlace} (ht : P.underlying t = some (.slice e)) (he : P.underlying e = some .string) (hC : P.cellsOf e = 1)
    (hv : Value.okWide P W .any base t v) (h : DataW.Trod enc P W 0 (fun _ => true) true t v d p) :
    ∃ (A : Option Addr) (n c : Nat) (l : List ByteArray), v = .slice A n c ∧ SegG strLay W A n l ∧ n ≤ c ∧ c ≤ maxLen ∧ ∀ x ∈ l, x.size ≤ maxLen := by
  obtain ⟨a0, len0, cap0, rfl⟩ := okWide_slice ht hv
  obtain ⟨fuel, hf⟩ := h
  rcases open_slice1 ht hC hf with ⟨hcs, _⟩ | ⟨x, l, c, m, n, V, D, Pl, hcs, _, hl, hm, hmm, _, hx⟩
  · simp [Value.cells] at hcs
    obtain ⟨rfl, rfl, rfl⟩ := hcs
    exact ⟨none, 0, 0, [], rfl, SegG.nil _ _, Nat.le_refl _, Nat.zero_le _, fun x hx => by simp at hx⟩
  · simp [Value.cells] at hcs
    obtain ⟨rfl, rfl, rfl⟩ := hcs
    simp only [if_true] at hmm
    subst hmm
    obtain ⟨S, hS⟩ := choose_lt (α := ByteArray) (p := fun i b => V i = .string b ∧ b.size ≤ maxLen) (fun i hi => by
      obtain ⟨b, h1, _, h3⟩ := DataW.trod_string he (hx i hi).2
      exact ⟨b, by simpa using h1, h3⟩)
    refine ⟨some x, len0, m, (List.range len0).map S, rfl, ⟨by simp, fun hn => ?_⟩, hl, hm, fun y hy => ?_⟩
    · obtain ⟨b, off, spot⟩ := x
      have hspot : spot = none := by simpa [Addr.add] using World.cell?_spot (hx 0 (by omega)).1
      subst hspot
      refine ⟨b, off, rfl, fun j u hu => ?_⟩
      obtain ⟨k, hk, i, hi, e1, hh⟩ := cellsG_get strLay _ j u hu
      have hi0 : i = 0 := by have : i < 1 := hi; omega
      subst hi0
      have e2 : j = k := by rw [e1]; show k * 1 + 0 = k; omega
      subst e2
      have hk' : j < len0 := by simpa using hk
      have e3 : ((List.range len0).map S)[j]'hk = S j := by simp
      rw [e3] at hh
      have e4 : u = .string (S j) := by injection hh with hh; exact hh.symm
      have := (hx j (by omega)).1
      rw [addr_addG, (hS j (by omega)).1] at this
      rw [e4, this]
    · obtain ⟨j, hj, rfl⟩ := List.mem_map.1 hy
      exact (hS j (by have := List.mem_range.1 hj; omega)).2
end

end Go.Proofs.YtipfhcljdginoaaDoor
