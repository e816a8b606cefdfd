/-
  How an argument that is a slice of forms (a slice of bytes, and a byte) is opened.
-/
import Derived.Test.YtcmagjeplofagaaOpen
import Derived.Test.YtcmagjeplofagaaOpenL
import Derived.Test.YtcmagjeplofagaaMemT
import Derived.Deep.Slices
import Derived.Deep.Fields
import Derived.ChangeSame
namespace Go.Proofs.Ytcmagjeplofagaa
open Go.ChangeShapes Go.WideShapes Go.ChangeAt Go.RowKit Go.Joins Go.Deep

section
variable {H : Type} {enc : TypeId × Value → H} {P : Program} {W : World} {base : Nat}

theorem addr_addF (b off j : Nat) : (⟨b, off, none⟩ : Addr).add j = ⟨b, off + j, none⟩ := by
  unfold Addr.add
  split
  · subst j; rfl
  · rfl

theorem open_forms {t e bs : TypeId} {f0 f1 : Field} {v : Value} {d : DataW H} {p : List MemPlace} (ht : P.underlying t = some (.slice e)) (hs : P.underlying e = some (.struct #[f0, f1])) (hone : oneCellFields P #[f0, f1] = true) (hC : P.cellsOf e = 2)
    (h0 : P.underlying f0.type = some (.slice bs)) (hbs : P.underlying bs = some (.int .u8)) (hCb : P.cellsOf bs = 1) (h1 : P.underlying f1.type = some (.int .u8))
    (hv : Value.okWide P W .any base t v) (h : DataW.Trod enc P W 0 (fun _ => true) true t v d p) :
    ∃ (A : Option Addr) (n c : Nat) (L : List Frm), v = .slice A n c ∧ SegF W A n L ∧ n ≤ c ∧ c ≤ maxLen := by
  obtain ⟨a0, len0, cap0, rfl⟩ := okWide_slice ht hv
  obtain ⟨fuel, hf⟩ := h
  rcases open_slice ht hf with ⟨hcs, _⟩ | ⟨a, len, cap, m, n, D, Pl, hcs, _, hl, hm, hmm, _, hi⟩
  · simp [Value.cells] at hcs
    obtain ⟨rfl, rfl, rfl⟩ := hcs
    exact ⟨none, 0, 0, [], rfl, SegN.nil _ _, Nat.le_refl _, Nat.zero_le _⟩
  · simp [Value.cells] at hcs
    obtain ⟨rfl, rfl, rfl⟩ := hcs
    have hmc : m = cap0 := by simpa using hmm
    subst hmc
    have hel : ∀ i, i < len0 → ∃ (s : FrmS) (x : Frm), FrmAt W s x ∧ W.cell? (a.add (i * 2 + 0)) = some (.slice s.A s.n s.c) ∧ W.cell? (a.add (i * 2 + 1)) = some (.int .u8 s.k) := by
      intro i hil
      obtain ⟨cs', hc, ht'⟩ := hi i (by omega)
      rw [hC] at hc
      obtain ⟨ys, n', hn', hy, hlen, hyl, hf'⟩ := DataW.trod_struct hs ht'
      obtain ⟨_, hcl, hat⟩ := World.cells?_some hc
      have hg : ∀ (j : Nat) (f : Field), #[f0, f1][j]? = some f → ∃ (u : Value) (y : DataW H × List MemPlace), W.cell? (a.add (i * 2 + j)) = some u ∧ DataW.trod enc P W 0 (fun _ => true) true n' f.type [u] = some y := by
        intro j f hj
        obtain ⟨ho, hk⟩ := hone_of hone j f hj
        have hjl : j < 2 := by
          have := (Array.getElem?_eq_some_iff.1 hj).1
          simpa using this
        have hcell := hat j hjl
        have hv : cs'[j]? = some (cs'[j]'(by omega)) := List.getElem?_eq_getElem (by omega)
        have h1 := hf' j f hj
        rw [ho, hk] at h1
        have hone' : (cs'.drop j).take 1 = [cs'[j]'(by omega)] := by
          rw [List.drop_eq_getElem_cons (by omega)]
          rfl
        rw [hone'] at h1
        have hyl' : ys.length = 2 := by simpa using hyl
        have hys : ys[j]? = some (ys[j]'(by omega)) := List.getElem?_eq_getElem (by omega)
        refine ⟨_, _, ?_, h1.trans hys⟩
        rw [← Go.Deep.add_add, hcell, hv]
      obtain ⟨u0, y0, c0, t0⟩ := hg 0 f0 rfl
      obtain ⟨u1, y1, c1, t1⟩ := hg 1 f1 rfl
      obtain ⟨B, k, c, l, e0, hsB, hkc, hcm⟩ := open_bytes_cs h0 hbs hCb t0
      obtain ⟨x, e1, _, wa⟩ := DataW.trod_int h1 t1
      simp only [List.cons.injEq, and_true] at e0 e1
      subst e0 e1
      have ba := bounds_u8 wa
      exact ⟨⟨B, k, c, x⟩, ⟨l, x⟩, ⟨rfl, hsB, hkc, hcm, ba.1, ba.2⟩, c0, c1⟩
    obtain ⟨F, hF⟩ : ∃ F : Nat → FrmS × Frm, ∀ i, i < len0 → FrmAt W (F i).1 (F i).2 ∧ W.cell? (a.add (i * 2 + 0)) = some (.slice (F i).1.A (F i).1.n (F i).1.c) ∧ W.cell? (a.add (i * 2 + 1)) = some (.int .u8 (F i).1.k) := by
      classical
      refine ⟨fun i => if hi : i < len0 then ⟨Classical.choose (hel i hi), Classical.choose (Classical.choose_spec (hel i hi))⟩ else ⟨⟨none, 0, 0, 0⟩, ⟨[], 0⟩⟩, fun i hi => ?_⟩
      simp only [dif_pos hi]
      exact Classical.choose_spec (Classical.choose_spec (hel i hi))
    refine ⟨some a, len0, m, (List.range len0).map fun i => (F i).2, rfl, ⟨(List.range len0).map fun i => (F i).1, ⟨by simp, fun hn => ?_⟩, by simp, ?_⟩, hl, hm⟩
    · obtain ⟨b, off, spot⟩ := a
      have hspot : spot = none := by simpa [Addr.add] using World.cell?_spot (hF 0 hn).2.1
      subst hspot
      have hadd : ∀ j, (⟨b, off, none⟩ : Addr).add j = ⟨b, off + j, none⟩ := addr_addF b off
      refine ⟨b, off, rfl, fun j u hu => ?_⟩
      obtain ⟨k, hk, i, hi2, rfl, hh⟩ := cellsG_get _ _ j u hu
      have hk' : k < len0 := by simpa using hk
      have hFk := hF k hk'
      rw [hadd, hadd] at hFk
      have eg : ((List.range len0).map fun i => (F i).1)[k]'hk = (F k).1 := by simp
      rw [eg] at hh
      have hi2' : i < 2 := hi2
      have hz : frmLay.z = 2 := rfl
      rw [hz]
      rcases i with _ | _ | i
      · have e : u = .slice (F k).1.A (F k).1.n (F k).1.c := by injection hh with hh; exact hh.symm
        rw [e]
        exact hFk.2.1
      · have e : u = .int .u8 (F k).1.k := by injection hh with hh; exact hh.symm
        rw [e]
        exact hFk.2.2
      · omega
    · intro i s x hs' hx'
      have hi : i < len0 := by
        have := (List.getElem?_eq_some_iff.1 hs').1
        simpa using this
      have e1 : (F i).1 = s := by simpa [hi] using hs'
      have e2 : (F i).2 = x := by simpa [hi] using hx'
      rw [← e1, ← e2]
      exact (hF i hi).1
end

end Go.Proofs.Ytcmagjeplofagaa
