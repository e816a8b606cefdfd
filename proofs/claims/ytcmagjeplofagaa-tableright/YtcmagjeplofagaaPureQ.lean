/-
  Tables that may be: said of lists.
-/
import Derived.Test.YtcmagjeplofagaaMemT
namespace Go.Proofs.Ytcmagjeplofagaa

def nameOk (s : ByteArray) : Prop := 1 ≤ s.size ∧ s.size ≤ 20
def ColsOk (k : Int) (cs : List Col) : Prop := (∀ c ∈ cs, nameOk c.s) ∧ (cs.map Col.s).Nodup ∧ (∀ c ∈ cs, c.k = 1 ∨ c.k = 2) ∧ (∀ (i : Nat) (c : Col), cs[i]? = some c → (i : Int) < k → c.b = false)
def TblOk (t : Tbl) : Prop := 1 ≤ t.cols.length ∧ t.cols.length ≤ 8 ∧ 1 ≤ t.k ∧ t.k ≤ (t.cols.length : Int) ∧ ColsOk t.k t.cols
def TabsOk (L : List Tbl) : Prop := 1 ≤ L.length ∧ L.length ≤ 4 ∧ (∀ t ∈ L, nameOk t.s) ∧ (L.map Tbl.s).Nodup ∧ ∀ t ∈ L, TblOk t

def colN (i : Nat) : ByteArray := ⟨#[UInt8.ofNat (97 + i)]⟩
def tblN (i : Nat) : ByteArray := ⟨#[116, UInt8.ofNat (48 + i)]⟩
theorem colN_size (i : Nat) : (colN i).size = 1 := rfl
theorem tblN_size (i : Nat) : (tblN i).size = 2 := rfl
theorem ofNat_inj {a b : Nat} (ha : a < 256) (hb : b < 256) (h : UInt8.ofNat a = UInt8.ofNat b) : a = b := by
  have := congrArg UInt8.toNat h
  simp at this
  omega
theorem colN_inj {i j : Nat} (hi : i < 100) (hj : j < 100) (h : colN i = colN j) : i = j := by
  unfold colN at h
  injection h with h
  simp at h
  have := ofNat_inj (by omega) (by omega) h
  omega
theorem tblN_inj {i j : Nat} (hi : i < 100) (hj : j < 100) (h : tblN i = tblN j) : i = j := by
  unfold tblN at h
  injection h with h
  simp at h
  have := ofNat_inj (by omega) (by omega) h
  omega

theorem nodup_names {α : Type} (l : List α) (f : α → ByteArray) (N : Nat → ByteArray) (hN : ∀ i j, i < 100 → j < 100 → N i = N j → i = j) (hl : l.length ≤ 100) (h : ∀ (i : Nat) (x : α), l[i]? = some x → f x = N i) : (l.map f).Nodup := by
  rw [List.Nodup, List.pairwise_iff_getElem]
  intro i j hi hj hij e
  rw [List.length_map] at hi hj
  rw [List.getElem_map, List.getElem_map, h i _ (List.getElem?_eq_getElem hi), h j _ (List.getElem?_eq_getElem hj)] at e
  have := hN i j (by omega) (by omega) e
  omega

/-- Columns as the document's Tables makes them, the first 'k' of them never nothing. -/
def GoodC (k : Int) (D : List Col) : Prop := ∀ (i : Nat) (c : Col), D[i]? = some c → c.s = colN i ∧ (c.k = 1 ∨ c.k = 2) ∧ ((i : Int) < k → c.b = false)
theorem GoodC.ok {k : Int} {D : List Col} (h : GoodC k D) (hl : D.length ≤ 8) : ColsOk k D := by
  refine ⟨fun c hc => ?_, nodup_names D Col.s colN (fun _ _ => colN_inj) (by omega) (fun i x hx => (h i x hx).1), fun c hc => ?_, fun i c hc hi => (h i c hc).2.2 hi⟩
  · obtain ⟨i, hi, rfl⟩ := List.getElem_of_mem hc
    rw [(h i _ (List.getElem?_eq_getElem hi)).1]
    exact ⟨by rw [colN_size]; omega, by rw [colN_size]; omega⟩
  · obtain ⟨i, hi, rfl⟩ := List.getElem_of_mem hc
    exact (h i _ (List.getElem?_eq_getElem hi)).2.1
theorem GoodC.mono {k k' : Int} {D : List Col} (h : GoodC k D) (hk : k' ≤ k) : GoodC k' D := fun i c hc => ⟨(h i c hc).1, (h i c hc).2.1, fun hi => (h i c hc).2.2 (by omega)⟩
theorem GoodC.first (k : Int) : GoodC k [⟨⟨#[97]⟩, 1, false⟩] := fun i c hc => by
  rcases i with _ | i
  · simp at hc
    subst hc
    exact ⟨rfl, .inl rfl, fun _ => rfl⟩
  · simp at hc
theorem GoodC.nil (k : Int) : GoodC k [] := fun i c hc => by simp at hc
theorem GoodC.snoc {k : Int} {D : List Col} {n : Nat} {q : Int} (h : GoodC k D) (hn : D.length = n) (hq : q = 1 ∨ q = 2) : GoodC k (D ++ [⟨colN n, q, false⟩]) := fun i c hc => by
  by_cases hi : i < D.length
  · rw [List.getElem?_append_left hi] at hc
    exact h i c hc
  · have hi' : i = D.length := by
      have := (List.getElem?_eq_some_iff.1 hc).1
      simp at this
      omega
    subst hi'
    simp at hc
    subst hc
    subst hn
    exact ⟨rfl, hq, fun _ => rfl⟩
theorem GoodC.set_ {k : Int} {D : List Col} (h : GoodC k D) (i : Nat) (hi : i < D.length) (hk : k ≤ (i : Int)) (b : Bool) : GoodC k (D.set i ⟨D[i].s, D[i].k, b⟩) := fun j c hc => by
  by_cases e : i = j
  · subst e
    rw [List.getElem?_set_self hi] at hc
    injection hc with hc
    subst hc
    have := h i _ (List.getElem?_eq_getElem hi)
    exact ⟨this.1, this.2.1, fun hj => by omega⟩
  · rw [List.getElem?_set_ne e] at hc
    exact h j c hc
theorem tabsOk_of (T : List Tbl) (h1 : 1 ≤ T.length) (h2 : T.length ≤ 4) (h : ∀ (i : Nat) (t : Tbl), T[i]? = some t → t.s = tblN i ∧ TblOk t) : TabsOk T := by
  refine ⟨h1, h2, fun t ht => ?_, nodup_names T Tbl.s tblN (fun _ _ => tblN_inj) (by omega) (fun i x hx => (h i x hx).1), fun t ht => ?_⟩
  · obtain ⟨i, hi, rfl⟩ := List.getElem_of_mem ht
    rw [(h i _ (List.getElem?_eq_getElem hi)).1]
    exact ⟨by rw [tblN_size]; omega, by rw [tblN_size]; omega⟩
  · obtain ⟨i, hi, rfl⟩ := List.getElem_of_mem ht
    exact (h i _ (List.getElem?_eq_getElem hi)).2
end Go.Proofs.Ytcmagjeplofagaa
