/-
  How an argument that is a slice of words is opened.
-/
import Derived.Test.YtcmagjeplofagaaOpen
import Derived.Test.YtcmagjeplofagaaMemV
import Derived.Deep.Slices
import Derived.Deep.Fields
import Derived.ChangeSame
namespace Go.Proofs.Ytcmagjeplofagaa
open Go.ChangeShapes Go.WideShapes Go.ChangeAt Go.RowKit Go.Joins Go.Deep

section
variable {H : Type} {enc : TypeId × Value → H} {P : Program} {W : World} {base : Nat}

theorem addr_add (b off j : Nat) : (⟨b, off, none⟩ : Addr).add j = ⟨b, off + j, none⟩ := by
  unfold Addr.add
  split
  · subst j; rfl
  · rfl
theorem cellsV_get (l : List V) (j : Nat) (u : Value) (h : (cellsV l)[j]? = some u) : ∃ (k : Nat) (hk : k < l.length), (j = k * 3 ∧ u = .int .u8 l[k].k) ∨ (j = k * 3 + 1 ∧ u = .int .i64 l[k].n) ∨ (j = k * 3 + 2 ∧ u = .string l[k].s) := by
  have hj : j < l.length * 3 := by
    have := (List.getElem?_eq_some_iff.1 h).1
    rwa [cellsV_length] at this
  have hk : j / 3 < l.length := by omega
  obtain ⟨h0, h1, h2⟩ := cellsV_at l (j / 3) hk
  refine ⟨j / 3, hk, ?_⟩
  have hr : j % 3 = 0 ∨ j % 3 = 1 ∨ j % 3 = 2 := by omega
  rcases hr with hr | hr | hr
  · have e : j = j / 3 * 3 := by omega
    refine .inl ⟨e, ?_⟩
    rw [← e, h] at h0
    injection h0
  · have e : j = j / 3 * 3 + 1 := by omega
    refine .inr (.inl ⟨e, ?_⟩)
    rw [← e, h] at h1
    injection h1
  · have e : j = j / 3 * 3 + 2 := by omega
    refine .inr (.inr ⟨e, ?_⟩)
    rw [← e, h] at h2
    injection h2

theorem open_words {t e : TypeId} {f0 f1 f2 : Field} {v : Value} {d : DataW H} {p : List MemPlace} (ht : P.underlying t = some (.slice e)) (hs : P.underlying e = some (.struct #[f0, f1, f2])) (hone : oneCellFields P #[f0, f1, f2] = true) (hC : P.cellsOf e = 3)
    (h0 : P.underlying f0.type = some (.int .u8)) (h1 : P.underlying f1.type = some (.int .i64)) (h2 : P.underlying f2.type = some .string)
    (hv : Value.okWide P W .any base t v) (h : DataW.Trod enc P W 0 (fun _ => true) true t v d p) :
    ∃ (A : Option Addr) (n c : Nat) (l : List V), v = .slice A n c ∧ SegV W A n l ∧ n ≤ c ∧ c ≤ maxLen ∧ ∀ x ∈ l, x.Wide := by
  obtain ⟨a0, len0, cap0, rfl⟩ := okWide_slice ht hv
  obtain ⟨fuel, hf⟩ := h
  rcases open_slice ht hf with ⟨hcs, _⟩ | ⟨a, len, cap, m, n, D, Pl, hcs, _, hl, hm, hmm, _, hi⟩
  · simp [Value.cells] at hcs
    obtain ⟨rfl, rfl, rfl⟩ := hcs
    exact ⟨none, 0, 0, [], rfl, SegV.nil _ _, Nat.le_refl _, Nat.zero_le _, fun x hx => by cases hx⟩
  · simp [Value.cells] at hcs
    obtain ⟨rfl, rfl, rfl⟩ := hcs
    have hmc : m = cap0 := by simpa using hmm
    subst hmc
    have hel : ∀ i, i < len0 → ∃ x : V, x.Wide ∧ W.cell? (a.add (i * 3 + 0)) = some (.int .u8 x.k) ∧ W.cell? (a.add (i * 3 + 1)) = some (.int .i64 x.n) ∧ W.cell? (a.add (i * 3 + 2)) = some (.string x.s) := by
      intro i hil
      obtain ⟨cs', hc, ht'⟩ := hi i (by omega)
      rw [hC] at hc
      obtain ⟨ys, n', hn', hy, hlen, hyl, hf'⟩ := DataW.trod_struct hs ht'
      obtain ⟨_, hcl, hat⟩ := World.cells?_some hc
      have hg : ∀ (j : Nat) (f : Field), #[f0, f1, f2][j]? = some f → ∃ (u : Value) (y : DataW H × List MemPlace), W.cell? (a.add (i * 3 + j)) = some u ∧ DataW.trod enc P W 0 (fun _ => true) true n' f.type [u] = some y := by
        intro j f hj
        obtain ⟨ho, hk⟩ := hone_of hone j f hj
        have hjl : j < 3 := by
          have := (Array.getElem?_eq_some_iff.1 hj).1
          simpa using this
        have hcell := hat j hjl
        have hv : cs'[j]? = some (cs'[j]'(by omega)) := List.getElem?_eq_getElem (by omega)
        have h1 := hf' j f hj
        rw [ho, hk] at h1
        have hone' : (cs'.drop j).take 1 = [cs'[j]'(by omega)] := by
          rw [List.drop_eq_getElem_cons (by omega)]
          rfl
        rw [hone'] at h1
        have hyl' : ys.length = 3 := by simpa using hyl
        have hys : ys[j]? = some (ys[j]'(by omega)) := List.getElem?_eq_getElem (by omega)
        refine ⟨_, _, ?_, h1.trans hys⟩
        rw [← Go.Deep.add_add, hcell, hv]
      obtain ⟨u0, y0, c0, t0⟩ := hg 0 f0 rfl
      obtain ⟨u1, y1, c1, t1⟩ := hg 1 f1 rfl
      obtain ⟨u2, y2, c2, t2⟩ := hg 2 f2 rfl
      obtain ⟨x, e0, _, wa⟩ := DataW.trod_int h0 t0
      obtain ⟨b, e1, _, wb⟩ := DataW.trod_int h1 t1
      obtain ⟨s, e2, _, ws⟩ := DataW.trod_string h2 t2
      simp only [List.cons.injEq, and_true] at e0 e1 e2
      subst e0 e1 e2
      have ba := bounds_u8 wa
      have bb := bounds_i64 wb
      exact ⟨⟨x, b, s⟩, ⟨ba.1, ba.2, bb.1, bb.2, ws⟩, c0, c1, c2⟩
    obtain ⟨F, hF⟩ : ∃ F : Nat → V, ∀ i, i < len0 → (F i).Wide ∧ W.cell? (a.add (i * 3 + 0)) = some (.int .u8 (F i).k) ∧ W.cell? (a.add (i * 3 + 1)) = some (.int .i64 (F i).n) ∧ W.cell? (a.add (i * 3 + 2)) = some (.string (F i).s) := by
      classical
      refine ⟨fun i => if hi : i < len0 then Classical.choose (hel i hi) else V.none, fun i hi => ?_⟩
      simp only [dif_pos hi]
      exact Classical.choose_spec (hel i hi)
    refine ⟨some a, len0, m, (List.range len0).map F, rfl, ⟨by simp, fun hn => ?_⟩, hl, hm, ?_⟩
    · obtain ⟨b, off, spot⟩ := a
      have hspot : spot = none := by simpa [Addr.add] using World.cell?_spot (hF 0 hn).2.1
      subst hspot
      have hadd : ∀ j, (⟨b, off, none⟩ : Addr).add j = ⟨b, off + j, none⟩ := addr_add b off
      refine ⟨b, off, rfl, fun j u hu => ?_⟩
      obtain ⟨k, hk, hh⟩ := cellsV_get _ j u hu
      have hk' : k < len0 := by simpa using hk
      have hFk := hF k hk'
      rw [hadd, hadd, hadd] at hFk
      have eg : ((List.range len0).map F)[k]'hk = F k := by simp
      rw [eg] at hh
      rcases hh with ⟨rfl, rfl⟩ | ⟨rfl, rfl⟩ | ⟨rfl, rfl⟩
      · exact hFk.2.1
      · exact hFk.2.2.1
      · exact hFk.2.2.2
    · intro x hx
      simp only [List.mem_map, List.mem_range] at hx
      obtain ⟨i, hi, rfl⟩ := hx
      exact (hF i hi).1
end

end Go.Proofs.Ytcmagjeplofagaa
