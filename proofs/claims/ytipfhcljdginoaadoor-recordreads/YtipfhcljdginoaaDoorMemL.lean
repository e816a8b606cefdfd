/-
  Rows of rows of bytes that the call owns ('OwnL'), and how they grow.
-/
import Derived.Test.YtipfhcljdginoaaDoorMemG
import Derived.Test.YtipfhcljdginoaaDoorDK1
import Derived.Test.YtipfhcljdginoaaDoorOpenL
namespace Go.Proofs.YtipfhcljdginoaaDoor
open Go.RowKit

structure BsS where
  A : Option Addr
  n : Nat
  c : Nat
def bsLay : Lay BsS where
  z := 1
  cells s := [.slice s.A s.n s.c]
  len _ := rfl
  one c u hu := by simp at hu; rcases hu with rfl; rfl
  pos := by omega
theorem bsT : ElT Tryd.prog bsLay 42 28 (.slice none 0 0) 24 := ⟨Tryd.underlying42, by kernel_rfl, rfl, by omega⟩

def BsAt (w : World) (base : Nat) (v : Value) (s : BsS) (l : List UInt8) : Prop := Seg w s.A s.n l ∧ s.n ≤ s.c ∧ s.c ≤ maxLen ∧ (0 < s.n → ∀ a, s.A = some a → v.ownBlock ≠ some a.block ∧ base ≤ a.block)
/-- The slice value v is a row of the call's own and holds slices of bytes that read as the lists ls. -/
def OwnL (w : World) (base : Nat) (v : Value) (ls : List (List UInt8)) : Prop :=
  ∃ S : List BsS, OwnG bsLay w base 28 v S ∧ S.length = ls.length ∧ ∀ (i : Nat) (s : BsS) (l : List UInt8), S[i]? = some s → ls[i]? = some l → BsAt w base v s l

theorem OwnL.nil (w : World) (base : Nat) : OwnL w base (.slice none 0 0) [] := ⟨[], OwnG.nil _ _ _, rfl, fun i s l h => by simp at h⟩
theorem OwnL.below {w w' : World} {base : Nat} {v : Value} {ls : List (List UInt8)} (h : OwnL w base v ls) (hb : Below w.heap.size w w') : OwnL w' base v ls := by
  obtain ⟨S, h1, h2, h3⟩ := h
  exact ⟨S, h1.below hb, h2, fun i s l hs hl => ⟨(h3 i s l hs hl).1.below hb, (h3 i s l hs hl).2⟩⟩
theorem OwnL.drewN {w : World} {base : Nat} {v : Value} {ls : List (List UInt8)} (h : OwnL w base v ls) (k : Nat) : OwnL (w.drewN k) base v ls := h
theorem OwnL.seg {w : World} {base : Nat} {v : Value} {ls : List (List UInt8)} (h : OwnL w base v ls) : ∃ A c, v = .slice A ls.length c ∧ SegL w A ls.length ls ∧ ls.length ≤ c ∧ c ≤ maxLen := by
  obtain ⟨S, h1, h2, h3⟩ := h
  obtain ⟨A, c, e, hs, hl, hc⟩ := h1.forms
  rw [h2] at e hs hl
  refine ⟨A, c, e, ⟨rfl, fun hn => ?_⟩, hl, hc⟩
  obtain ⟨g, o, rfl, _⟩ := hs.2 hn
  refine ⟨g, o, rfl, fun j l hj => ?_⟩
  have hjl : j < ls.length := (List.getElem?_eq_some_iff.1 hj).1
  have hjS : j < S.length := by omega
  obtain ⟨g', o', e', hc'⟩ := hs.at_ (k := j) hjl
  injection e' with e'
  injection e' with e1 e2
  subst e1 e2
  have hcell := hc' 0 _ rfl
  have hx := h3 j _ l (List.getElem?_eq_getElem hjS) hj
  refine ⟨_, _, _, ?_, hx.1, hx.2.1, hx.2.2.1⟩
  rw [show o + j = o + j * bsLay.z + 0 by show o + j = o + j * 1 + 0; omega]
  exact hcell
theorem OwnL.append {w w' : World} {base : Nat} {v v' : Value} {L : List (List UInt8)} {S : List BsS} {s : BsS} {q : List UInt8} {o : Obj}
    (hSl : S.length = L.length) (hSe : ∀ (i : Nat) (s : BsS) (l : List UInt8), S[i]? = some s → L[i]? = some l → BsAt w base v s l) (hq : BsAt w base v s q)
    (ho : OwnG bsLay w' base 28 v' (S ++ [s])) (hg : (w.alloc o).grownBy w' v.ownBlock) (hv : v'.ownBlock = v.ownBlock ∨ v'.ownBlock = some (w.alloc o).heap.size) :
    OwnL w' base v' (L ++ [q]) := by
  have step : ∀ (t : BsS) (l : List UInt8), BsAt w base v t l → BsAt w' base v' t l := by
    intro t l ⟨h1, h2, h3, h4⟩
    have hon : Only (w.alloc o) w' (fun k => v.ownBlock = some k) := Only.of_grown hg fun k hk => hk
    refine ⟨(h1.alloc o).only hon fun hn a ha => (h4 hn a ha).1, h2, h3, fun hn a ha => ⟨fun e => ?_, (h4 hn a ha).2⟩⟩
    rcases hv with hv | hv
    · exact (h4 hn a ha).1 (by rw [← hv]; exact e)
    · rw [hv] at e
      injection e with e
      have := h1.lt hn a ha
      have hz : (w.alloc o).heap.size = w.heap.size + 1 := by simp
      omega
  refine ⟨S ++ [s], ho, by simp [hSl], fun i t l ht hl => ?_⟩
  by_cases hi : i < S.length
  · rw [List.getElem?_append_left hi] at ht
    rw [List.getElem?_append_left (by omega)] at hl
    exact step t l (hSe i t l ht hl)
  · rw [List.getElem?_append_right (by omega)] at ht
    rw [List.getElem?_append_right (by omega)] at hl
    have hi0 : i - S.length = 0 := by
      have := (List.getElem?_eq_some_iff.1 ht).1
      simp at this
      omega
    rw [hi0] at ht
    rw [← hSl, hi0] at hl
    simp at ht hl
    subst ht hl
    exact step _ _ hq

theorem OwnG.only {α : Type} {Y : Lay α} {w w' : World} {base : Nat} {e : TypeId} {v : Value} {l : List α} {S : Nat → Prop} (h : OwnG Y w base e v l) (hw : Only w w' S) (hv : ∀ k, v.ownBlock = some k → ¬ S k) : OwnG Y w' base e v l := by
  have hlt := h.lt
  refine ⟨h.1, ?_⟩
  rcases h.2 with hn | ⟨g, cap, cur, rfl, hbg, hg, rest⟩
  · exact .inl hn
  · exact .inr ⟨g, cap, cur, rfl, hbg, (hw.block g (hlt g rfl).2 (hv g rfl)).trans hg, rest⟩
theorem OwnL.only {w w' : World} {base : Nat} {v : Value} {ls : List (List UInt8)} {S : Nat → Prop} (h : OwnL w base v ls) (ho : Only w w' S) (hS : ∀ k, base ≤ k → k < w.heap.size → ¬ S k) : OwnL w' base v ls := by
  obtain ⟨S0, h1, h2, h3⟩ := h
  refine ⟨S0, h1.only ho fun k hk => hS k (h1.lt k hk).1 (h1.lt k hk).2, h2, fun i s l hs hl => ?_⟩
  obtain ⟨q1, q2, q3, q4⟩ := h3 i s l hs hl
  exact ⟨q1.only ho fun hn a ha => hS a.block (q4 hn a ha).2 (q1.lt hn a ha), q2, q3, q4⟩
theorem OwnL.mono {w : World} {base b : Nat} {v : Value} {ls : List (List UInt8)} (h : OwnL w base v ls) (hb : b ≤ base) : OwnL w b v ls := by
  obtain ⟨S0, h1, h2, h3⟩ := h
  refine ⟨S0, h1.mono hb, h2, fun i s l hs hl => ?_⟩
  obtain ⟨q1, q2, q3, q4⟩ := h3 i s l hs hl
  exact ⟨q1, q2, q3, fun hn a ha => ⟨(q4 hn a ha).1, Nat.le_trans hb (q4 hn a ha).2⟩⟩
theorem SegL.below {w w' : World} {A : Option Addr} {n : Nat} {L : List (List UInt8)} (h : SegL w A n L) (hb : Below w.heap.size w w') : SegL w' A n L := by
  refine ⟨h.1, fun hn => ?_⟩
  obtain ⟨g, o, e, hc⟩ := h.2 hn
  refine ⟨g, o, e, fun j l hj => ?_⟩
  obtain ⟨B, m, c, h1, h2, h3⟩ := hc j l hj
  exact ⟨B, m, c, cell_below hb h1, h2.below hb, h3⟩
theorem SegL.nil (w : World) (A : Option Addr) : SegL w A 0 [] := ⟨rfl, fun h => absurd h (by omega)⟩
theorem SegL.upto {w : World} {A : Option Addr} {n : Nat} {L : List (List UInt8)} (h : SegL w A n L) (k : Nat) (hk : k ≤ n) : SegL w A k (L.take k) := by
  refine ⟨by rw [List.length_take, h.1]; omega, fun hn => ?_⟩
  obtain ⟨g, o, e, hc⟩ := h.2 (by omega)
  exact ⟨g, o, e, fun j l hj => hc j l (by
    rw [List.getElem?_take] at hj
    split at hj
    · exact hj
    · cases hj)⟩
theorem SegL.from_ {w : World} {g o n : Nat} {L : List (List UInt8)} (h : SegL w (some ⟨g, o, none⟩) n L) (k c : Nat) (hk : k ≤ n) (hc : n ≤ c) :
    SegL w (if c = k then some ⟨g, o, none⟩ else some ⟨g, o + k, none⟩) (n - k) (L.drop k) := by
  refine ⟨by rw [List.length_drop, h.1], fun hn => ?_⟩
  rw [if_neg (by omega)]
  refine ⟨g, o + k, rfl, fun j l hj => ?_⟩
  obtain ⟨g', o', e, hc'⟩ := h.2 (by omega)
  injection e with e
  injection e with e1 e2
  subst e1 e2
  rw [List.getElem?_drop] at hj
  have := hc' _ l hj
  rw [← Nat.add_assoc] at this
  exact this

end Go.Proofs.YtipfhcljdginoaaDoor
