/-
  How an argument that is a slice of numbers (int64) is opened.
-/
import Derived.Test.YtandlkflnfiikaaOpenG
namespace Go.Proofs.Ytandlkflnfiikaa
open Go.ChangeShapes Go.WideShapes Go.ChangeAt Go.RowKit Go.Joins Go.Deep

def i64Lay : Lay Int where
  z := 1
  cells b := [.int .i64 b]
  len _ := rfl
  one c u hu := by simp at hu; rcases hu with rfl; rfl
  pos := by omega
theorem SegG.i64At {w : World} {A : Option Addr} {n : Nat} {l : List Int} (h : SegG i64Lay w A n l) {k : Nat} (hk : k < n) :
    ∃ g o, A = some ⟨g, o, none⟩ ∧ w.cell? ⟨g, o + k, none⟩ = some (.int .i64 (l[k]'(by rw [h.1]; exact hk))) := by
  obtain ⟨g, o, e, hc⟩ := h.at_ hk
  have := hc 0 _ rfl
  rw [show o + k * i64Lay.z + 0 = o + k from by show o + k * 1 + 0 = o + k; omega] at this
  exact ⟨g, o, e, this⟩

section
variable {H : Type} {enc : TypeId × Value → H} {P : Program} {W : World} {base : Nat}
theorem open_i64L {t e : TypeId} {v : Value} {d : DataW H} {p : List MemPlace} (ht : P.underlying t = some (.slice e)) (he : P.underlying e = some (.int .i64)) (hC : P.cellsOf e = 1)
    (hv : Value.okWide P W .any base t v) (h : DataW.Trod enc P W 0 (fun _ => true) true t v d p) :
    ∃ (A : Option Addr) (n c : Nat) (l : List Int), v = .slice A n c ∧ SegG i64Lay W A n l ∧ n ≤ c ∧ c ≤ maxLen ∧ ∀ x ∈ l, -9223372036854775808 ≤ x ∧ x ≤ 9223372036854775807 := by
  obtain ⟨a0, len0, cap0, rfl⟩ := okWide_slice ht hv
  obtain ⟨fuel, hf⟩ := h
  rcases open_ints ht he hC hf with ⟨hcs, _⟩ | ⟨x, l, c, zs, hcs, _, hl, hm, hzl, _, hcell, hwf⟩
  · simp [Value.cells] at hcs
    obtain ⟨rfl, rfl, rfl⟩ := hcs
    exact ⟨none, 0, 0, [], rfl, SegG.nil _ _, Nat.le_refl _, Nat.zero_le _, fun x hx => by simp at hx⟩
  · simp [Value.cells] at hcs
    obtain ⟨rfl, rfl, rfl⟩ := hcs
    rw [if_pos rfl] at hzl
    refine ⟨some x, len0, cap0, zs.take len0, rfl, ⟨by rw [List.length_take]; omega, fun hn => ?_⟩, hl, hm, fun y hy => bounds_i64 (hwf y (List.mem_of_mem_take hy))⟩
    obtain ⟨b, off, spot⟩ := x
    have hspot : spot = none := by simpa [Addr.add] using World.cell?_spot (hcell 0 (by omega))
    subst hspot
    refine ⟨b, off, rfl, fun j u hu => ?_⟩
    obtain ⟨k, hk, i, hi, e1, hh⟩ := cellsG_get i64Lay _ j u hu
    have hi0 : i = 0 := by have : i < 1 := hi; omega
    subst hi0
    have e2 : j = k := by rw [e1]; show k * 1 + 0 = k; omega
    subst e2
    have hk' : j < len0 := by rw [List.length_take] at hk; omega
    have e4 : u = .int .i64 ((zs.take len0)[j]'hk) := by injection hh with hh; exact hh.symm
    have := hcell j (by omega)
    rw [addr_addG] at this
    rw [e4, this, List.getElem_take]
    simp [show j < zs.length by omega]
end

end Go.Proofs.Ytandlkflnfiikaa
