/-
  Plain facts for the law TrieOne; the document's Same of items.
-/
import Derived.Test.YtpbjianhkjjgkaaDoorYBL4
import Derived.Lib.QuietBelow
namespace Go.Proofs.YtpbjianhkjjgkaaDoor
open Go.RowKit

theorem put_first {x : It} {r : List It} (h : Asc (x :: r)) : putI r x.1 x.2 = x :: r := by
  rcases r with _ | ⟨y, r⟩
  · rfl
  · have h1 := (List.pairwise_cons.1 h).1 y (List.mem_cons_self ..)
    unfold putI
    rw [if_neg (by omega), if_neg (by omega)]
theorem Its.drop {m : List It} (h : Its m) (j : Nat) : Its (m.drop j) := ⟨h.1.sublist (List.drop_sublist j m), fun x hx => h.2 x (List.mem_of_mem_drop hx)⟩
theorem drop_put {m : List It} (h : Its m) (j : Nat) (hj : j < m.length) : putI (m.drop (j + 1)) m[j].1 m[j].2 = m.drop j := by
  rw [List.drop_eq_getElem_cons hj]
  refine put_first ?_
  rw [← List.drop_eq_getElem_cons hj]
  exact (h.drop j).1

/-- More keys, of the other kind, put and taken away again. -/
def xPut (m : List It) (x : TAct) : List It := putI m (24 + x.k) x.p
def xDel (m : List It) (x : TAct) : List It := delI m (24 + x.k)
theorem fold_succ {α : Type} (f : List It → α → List It) (m : List It) (L : List α) (j : Nat) (h : j < L.length) : (L.take (j + 1)).foldl f m = f ((L.take j).foldl f m) L[j] := by
  rw [List.take_succ_eq_append_getElem h, List.foldl_append]
  rfl
theorem xPut_its (L : List TAct) (hL : ∀ x ∈ L, x.k < 256) : ∀ m, Its m → Its (L.foldl xPut m) := by
  induction L with
  | nil => intro m h; exact h
  | cons x L ih => intro m h; exact ih (fun y hy => hL y (List.mem_cons_of_mem _ hy)) _ (h.put (by have := hL x (List.mem_cons_self ..); omega) _)
theorem xDel_its (L : List TAct) : ∀ m, Its m → Its (L.foldl xDel m) := by
  induction L with
  | nil => intro m h; exact h
  | cons x L ih => intro m h; exact ih _ (h.del _)
theorem xPut_mem (L : List TAct) (hL : ∀ x ∈ L, x.k < 256) : ∀ m, Its m → ∀ y, (y.1 < 24 → (y ∈ L.foldl xPut m ↔ y ∈ m)) ∧ (24 ≤ y.1 → y ∈ L.foldl xPut m → y ∈ m ∨ ∃ x ∈ L, y.1 = 24 + x.k) := by
  induction L with
  | nil => intro m _ y; exact ⟨fun _ => Iff.rfl, fun _ h => .inl h⟩
  | cons x L ih =>
    intro m hm y
    have hp : Its (xPut m x) := hm.put (by have := hL x (List.mem_cons_self ..); omega) _
    obtain ⟨h1, h2⟩ := ih (fun z hz => hL z (List.mem_cons_of_mem _ hz)) (xPut m x) hp y
    refine ⟨fun hy => (h1 hy).trans ?_, fun hy h => ?_⟩
    · unfold xPut
      rw [mem_put hm.1]
      constructor
      · rintro (e | ⟨h, _⟩)
        · rw [e] at hy
          exact absurd (show 24 + x.k < 24 from hy) (by omega)
        · exact h
      · intro h
        exact .inr ⟨h, by omega⟩
    · rcases h2 hy h with h | ⟨z, hz, e⟩
      · unfold xPut at h
        rcases (mem_put hm.1 y).1 h with e | ⟨h, _⟩
        · exact .inr ⟨x, List.mem_cons_self .., by rw [e]⟩
        · exact .inl h
      · exact .inr ⟨z, List.mem_cons_of_mem _ hz, e⟩
theorem xDel_mem (L : List TAct) : ∀ m y, y ∈ L.foldl xDel m ↔ y ∈ m ∧ ∀ x ∈ L, y.1 ≠ 24 + x.k := by
  induction L with
  | nil => intro m y; simp
  | cons x L ih =>
    intro m y
    show y ∈ L.foldl xDel (xDel m x) ↔ _
    rw [ih]
    unfold xDel
    rw [mem_del]
    constructor
    · rintro ⟨⟨h1, h2⟩, h3⟩
      refine ⟨h1, fun z hz => ?_⟩
      rcases List.mem_cons.1 hz with rfl | hz
      · exact h2
      · exact h3 z hz
    · rintro ⟨h1, h2⟩
      exact ⟨⟨h1, h2 x (List.mem_cons_self ..)⟩, fun z hz => h2 z (List.mem_cons_of_mem _ hz)⟩
/-- What was put of the other kind and taken away is gone. -/
theorem x_gone {m : List It} (hm : Its m) (h24 : ∀ y ∈ m, y.1 < 24) (L : List TAct) (hL : ∀ x ∈ L, x.k < 256) : L.foldl xDel (L.foldl xPut m) = m := by
  refine asc_ext (xDel_its L _ (xPut_its L hL m hm)).1 hm.1 fun y => ?_
  rw [xDel_mem]
  obtain ⟨h1, h2⟩ := xPut_mem L hL m hm y
  constructor
  · rintro ⟨h3, h4⟩
    by_cases hy : y.1 < 24
    · exact (h1 hy).1 h3
    · rcases h2 (by omega) h3 with h | ⟨x, hx, e⟩
      · exact h
      · exact absurd e (h4 x hx)
  · intro h
    exact ⟨(h1 (h24 y h)).2 h, fun x _ e => by have := h24 y h; omega⟩

/-- Items that stand for alike structs. -/
theorem its_take_succ {α : Type} (l : List α) (j : Nat) (hj : j < l.length) (r : List α) (hr : j < r.length) (h : l.take j = r.take j) (e : l[j] = r[j]) : l.take (j + 1) = r.take (j + 1) := by
  rw [List.take_succ_eq_append_getElem hj, List.take_succ_eq_append_getElem hr, h, e]
theorem ItsAt.at_ {w : World} : ∀ {S : List ItS} {m : List It}, ItsAt w S m → ∀ (j : Nat) (h : j < S.length) (h' : j < m.length), ItAt w S[j] m[j]
  | s :: S, x :: m, h, 0, _, _ => h.1
  | s :: S, x :: m, h, j + 1, h1, h2 => by
    simp only [List.getElem_cons_succ]
    exact ItsAt.at_ h.2 j (by simpa using h1) (by simpa using h2)
  | [], [], _, _, h1, _ => absurd h1 (by simp)
  | [], _ :: _, h, _, _, _ => h.elim
  | _ :: _, [], h, _, _, _ => h.elim

end Go.Proofs.YtpbjianhkjjgkaaDoor
