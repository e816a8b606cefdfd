/-
  How an argument that is a raw proof is opened: texts of bytes, a byte, a text, bytes.
-/
import Derived.Test.YtaanaoimnecenaaDoorOpenL
import Derived.Test.YtaanaoimnecenaaDoorPL5
namespace Go.Proofs.YtaanaoimnecenaaDoor
open Go.ChangeShapes Go.WideShapes Go.ChangeAt Go.RowKit Go.Joins Go.Deep

section
variable {H : Type} {enc : TypeId × Value → H} {P : Program} {W : World} {base : Nat}
theorem open_bytess_cs {t e b : TypeId} {cs : List Value} {fuel : Nat} {y : DataW H × List MemPlace} (ht : P.underlying t = some (.slice e)) (he : P.underlying e = some (.slice b)) (hb : P.underlying b = some (.int .u8)) (hCe : P.cellsOf e = 1) (hCb : P.cellsOf b = 1)
    (hf : DataW.trod enc P W 0 (fun _ => true) true fuel t cs = some y) :
    ∃ (A : Option Addr) (n c : Nat) (ls : List (List UInt8)), cs = [.slice A n c] ∧ SegL W A n ls ∧ n ≤ c ∧ c ≤ maxLen := by
  rcases open_slice ht hf with ⟨hcs, _⟩ | ⟨a, len0, cap, m, n, D, Pl, hcs, _, hl, hm, hmm, _, hi⟩
  · exact ⟨none, 0, 0, [], hcs, ⟨rfl, fun h => absurd h (by omega)⟩, Nat.le_refl _, Nat.zero_le _⟩
  · have hmc : m = cap := by simpa using hmm
    subst hmc
    have hel : ∀ i, i < len0 → ∃ l : List UInt8, ∃ B k c, W.cell? (a.add i) = some (.slice B k c) ∧ Seg W B k l ∧ k ≤ c ∧ c ≤ maxLen := by
      intro i hil
      obtain ⟨cs', hc, ht'⟩ := hi i (by omega)
      rw [hCe, Nat.mul_one] at hc
      obtain ⟨B, k, c, l, rfl, hs, h1, h2⟩ := open_bytes_cs he hb hCb ht'
      obtain ⟨_, hcl, hat⟩ := World.cells?_some hc
      have hcell := hat 0 (by omega)
      refine ⟨l, B, k, c, ?_, hs, h1, h2⟩
      rw [← show (a.add i).add 0 = a.add i from by simp [Addr.add], hcell]
      rfl
    obtain ⟨F, hF⟩ : ∃ F : Nat → List UInt8, ∀ i, i < len0 → ∃ B k c, W.cell? (a.add i) = some (.slice B k c) ∧ Seg W B k (F i) ∧ k ≤ c ∧ c ≤ maxLen := by
      classical
      refine ⟨fun i => if hi : i < len0 then Classical.choose (hel i hi) else [], fun i hi => ?_⟩
      simp only [dif_pos hi]
      exact Classical.choose_spec (hel i hi)
    refine ⟨some a, len0, m, (List.range len0).map F, hcs, ⟨by simp, fun hn => ?_⟩, hl, hm⟩
    obtain ⟨b, off, spot⟩ := a
    have hspot : spot = none := by
      obtain ⟨B, k, c, h0, _⟩ := hF 0 hn
      simpa [Addr.add] using World.cell?_spot h0
    subst hspot
    have hadd : ∀ j, (⟨b, off, none⟩ : Addr).add j = ⟨b, off + j, none⟩ := fun j => by
      unfold Addr.add
      split
      · subst j; rfl
      · rfl
    refine ⟨b, off, rfl, fun j l hl' => ?_⟩
    have hj : j < len0 := by
      have := (List.getElem?_eq_some_iff.1 hl').1
      simpa using this
    obtain ⟨B, k, c, h0, h1⟩ := hF j hj
    rw [hadd] at h0
    have e : F j = l := by simpa [hj] using hl'
    rw [e] at h1
    exact ⟨B, k, c, h0, h1⟩

theorem open_raw {t bs be bb : TypeId} {f0 f1 f2 f3 : Field} {v : Value} {d : DataW H} {p : List MemPlace} (hs : P.underlying t = some (.struct #[f0, f1, f2, f3])) (hone : oneCellFields P #[f0, f1, f2, f3] = true) (hC : P.cellsOf t = 4)
    (h0 : P.underlying f0.type = some (.slice bs)) (hbs : P.underlying bs = some (.slice bb)) (hbb : P.underlying bb = some (.int .u8)) (hCs : P.cellsOf bs = 1) (hCb : P.cellsOf bb = 1)
    (h1 : P.underlying f1.type = some (.int .u8)) (h2 : P.underlying f2.type = some .string) (h3 : P.underlying f3.type = some (.slice be)) (hbe : P.underlying be = some (.int .u8)) (hCe : P.cellsOf be = 1)
    (hv : Value.okWide P W .any base t v) (h : DataW.Trod enc P W 0 (fun _ => true) true t v d p) :
    ∃ x : Raw, RawAt W v x := by
  obtain ⟨v0, v1, v2, v3, y0, y1, y2, y3, n, rfl, rfl, rfl, t0, t1, t2, t3⟩ := open_agg4 hs hone hC hv h
  obtain ⟨A, k, c, ls, e0, hl, hkc, hcm⟩ := open_bytess_cs h0 hbs hbb hCs hCb t0
  obtain ⟨a, e1, _, wa⟩ := DataW.trod_int h1 t1
  obtain ⟨s, e2, _, ws⟩ := DataW.trod_string h2 t2
  obtain ⟨B, m, e, row, e3, hr, hme, hem⟩ := open_bytes_cs h3 hbe hCe t3
  simp only [List.cons.injEq, and_true] at e0 e1 e2 e3
  subst e0 e1 e2 e3
  have ba := bounds_u8 wa
  refine ⟨⟨ls, a.toNat, s, row⟩, A, k, c, B, m, e, ?_, hl, hr, hkc, hcm, hme, hem, ?_, ws⟩
  · have : ((a.toNat : Nat) : Int) = a := by omega
    rw [this]
  · show a.toNat < 256
    omega
end

end Go.Proofs.YtaanaoimnecenaaDoor
