/-
  A key's versions, as lists; versions in memory; a chain at a block ('Ch') and the document's chain ('Md').
-/
import Derived.Test.YtandlkflnfiikaaMemL
namespace Go.Proofs.Ytandlkflnfiikaa
open Go.RowKit

/-- A version: its number, its row, is it gone. -/
structure Ver where
  num : Int
  row : List UInt8
  gone : Bool
deriving Inhabited
/-- What the program keeps of one: of one that is gone no row. -/
def strip (x : Ver) : Ver := if x.gone = true then ⟨x.num, [], true⟩ else x
theorem strip_num (x : Ver) : (strip x).num = x.num := by unfold strip; split <;> rfl
theorem strip_gone (x : Ver) : (strip x).gone = x.gone := by
  unfold strip
  split
  · rename_i h; exact h.symm
  · rfl

/-- Ascending, and none above the greatest number. -/
def Asc (L : List Ver) (last : Int) : Prop := L.Pairwise (fun x y => x.num < y.num) ∧ ∀ x ∈ L, x.num ≤ last
/-- How many stand not above a number. -/
def upn (L : List Ver) (t : Int) : Nat := (L.takeWhile fun x => decide (x.num ≤ t)).length
theorem upn_le (L : List Ver) (t : Int) : upn L t ≤ L.length := (List.takeWhile_sublist _).length_le
theorem upn_lt (L : List Ver) (t : Int) : ∀ (i : Nat), i < upn L t → ∀ x, L[i]? = some x → x.num ≤ t := by
  induction L with
  | nil => intro i h; simp [upn] at h
  | cons y L ih =>
    intro i h x hx
    by_cases hy : y.num ≤ t
    · rcases i with _ | i
      · simp at hx; subst hx; exact hy
      · refine ih i ?_ x (by simpa using hx)
        simp [upn, hy] at h ⊢
        exact h
    · simp [upn, hy] at h
theorem upn_at (L : List Ver) (t : Int) : ∀ x, L[upn L t]? = some x → t < x.num := by
  induction L with
  | nil => intro x hx; simp at hx
  | cons y L ih =>
    intro x hx
    by_cases hy : y.num ≤ t
    · have e : upn (y :: L) t = upn L t + 1 := by simp [upn, hy]
      rw [e] at hx
      exact ih x (by simpa using hx)
    · have e : upn (y :: L) t = 0 := by simp [upn, hy]
      rw [e] at hx
      simp at hx
      subst hx
      omega
theorem asc_lt {L : List Ver} {last : Int} (h : Asc L last) {i j : Nat} {x y : Ver} (hij : i < j) (hx : L[i]? = some x) (hy : L[j]? = some y) : x.num < y.num := by
  obtain ⟨hi, rfl⟩ := List.getElem?_eq_some_iff.1 hx
  obtain ⟨hj, rfl⟩ := List.getElem?_eq_some_iff.1 hy
  exact List.pairwise_iff_getElem.1 h.1 i j hi hj hij
theorem upn_ge {L : List Ver} {last : Int} (h : Asc L last) (t : Int) (i : Nat) (hi : upn L t ≤ i) (x : Ver) (hx : L[i]? = some x) : t < x.num := by
  have hl : i < L.length := (List.getElem?_eq_some_iff.1 hx).1
  have hy : L[upn L t]? = some (L[upn L t]'(by omega)) := List.getElem?_eq_getElem (by omega)
  have h1 := upn_at L t _ hy
  rcases Nat.eq_or_lt_of_le hi with e | hlt
  · subst e
    rw [hx] at hy
    injection hy with hy
    rw [hy]; exact h1
  · exact Int.lt_trans h1 (asc_lt h hlt hy hx)
theorem upn_eq {L : List Ver} (t : Int) (k : Nat) (hk : k ≤ L.length) (h1 : ∀ i, i < k → ∀ x, L[i]? = some x → x.num ≤ t) (h2 : ∀ x, L[k]? = some x → t < x.num) : upn L t = k := by
  rcases Nat.lt_trichotomy (upn L t) k with h | h | h
  · have hx : L[upn L t]? = some (L[upn L t]'(by omega)) := List.getElem?_eq_getElem (by omega)
    have := upn_at L t _ hx
    have := h1 _ h _ hx
    omega
  · exact h
  · have hl := upn_le L t
    have hx : L[k]? = some (L[k]'(by omega)) := List.getElem?_eq_getElem (by omega)
    have := upn_lt L t k h _ hx
    have := h2 _ hx
    omega
theorem Asc.nil : Asc [] 0 := ⟨List.Pairwise.nil, fun x hx => by simp at hx⟩
theorem Asc.push {L : List Ver} {last : Int} (h : Asc L last) (x : Ver) (hx : last < x.num) : Asc (L ++ [x]) x.num := by
  refine ⟨List.pairwise_append.2 ⟨h.1, List.pairwise_singleton _ _, fun a ha b hb => ?_⟩, fun y hy => ?_⟩
  · simp at hb
    subst hb
    have := h.2 a ha
    omega
  · rcases List.mem_append.1 hy with hy | hy
    · have := h.2 y hy
      omega
    · simp at hy
      subst hy
      exact Int.le_refl _
theorem Asc.drop {L : List Ver} {last : Int} (h : Asc L last) (k : Nat) : Asc (L.drop k) last :=
  ⟨h.1.sublist (List.drop_sublist _ _), fun x hx => h.2 x (List.mem_of_mem_drop hx)⟩
theorem upn_map (L : List Ver) (t : Int) : upn (L.map strip) t = upn L t := by
  induction L with
  | nil => rfl
  | cons y L ih =>
    by_cases hy : y.num ≤ t
    · simp [upn, strip_num, hy] at ih ⊢
      exact ih
    · simp [upn, strip_num, hy]
theorem asc_map {L : List Ver} {last : Int} (h : Asc L last) : Asc (L.map strip) last := by
  refine ⟨List.pairwise_map.2 (h.1.imp fun {a b} hab => by rw [strip_num, strip_num]; exact hab), fun x hx => ?_⟩
  obtain ⟨y, hy, rfl⟩ := List.mem_map.1 hx
  rw [strip_num]
  exact h.2 y hy

/-- What is seen at a number. -/
def getV (L : List Ver) (t : Int) : List UInt8 × Bool :=
  match L[upn L t - 1]? with
  | some x => if upn L t = 0 ∨ x.gone = true then ([], false) else (x.row, true)
  | none => ([], false)
/-- How many are let go. -/
def trimN (L : List Ver) (t : Int) : Nat :=
  match L[upn L t - 1]? with
  | some x => if upn L t = 0 then 0 else if x.gone = true then upn L t else upn L t - 1
  | none => 0
theorem getV_map (L : List Ver) (t : Int) : getV (L.map strip) t = getV L t := by
  unfold getV
  rw [upn_map, List.getElem?_map]
  rcases hx : L[upn L t - 1]? with _ | x
  · rfl
  · simp only [Option.map_some, strip_gone]
    by_cases hg : x.gone = true
    · simp [hg]
    · simp [strip, hg]
theorem trimN_map (L : List Ver) (t : Int) : trimN (L.map strip) t = trimN L t := by
  unfold trimN
  rw [upn_map, List.getElem?_map]
  rcases hx : L[upn L t - 1]? with _ | x
  · rfl
  · simp only [Option.map_some, strip_gone]
theorem getV_zero {L : List Ver} {t : Int} (h : upn L t = 0) : getV L t = ([], false) := by
  unfold getV
  split
  · simp [h]
  · rfl
theorem trimN_zero {L : List Ver} {t : Int} (h : upn L t = 0) : trimN L t = 0 := by
  unfold trimN
  split
  · simp [h]
  · rfl
theorem getV_at {L : List Ver} {t : Int} {k : Nat} {x : Ver} (h : upn L t = k + 1) (hx : L[k]? = some x) : getV L t = if x.gone = true then ([], false) else (x.row, true) := by
  unfold getV
  rw [h, Nat.add_sub_cancel, hx]
  simp
theorem trimN_at {L : List Ver} {t : Int} {k : Nat} {x : Ver} (h : upn L t = k + 1) (hx : L[k]? = some x) : trimN L t = if x.gone = true then k + 1 else k := by
  unfold trimN
  rw [h, Nat.add_sub_cancel, hx]
  simp
theorem trimN_le (L : List Ver) (t : Int) : trimN L t ≤ L.length := by
  have hl := upn_le L t
  unfold trimN
  split
  · split
    · omega
    · split <;> omega
  · omega
theorem trimN_le_up (L : List Ver) (t : Int) : trimN L t ≤ upn L t := by
  unfold trimN
  split
  · split
    · omega
    · split <;> omega
  · omega
theorem upn_drop (L : List Ver) (t : Int) (k : Nat) (hk : k ≤ upn L t) : upn (L.drop k) t = upn L t - k := by
  have hl := upn_le L t
  refine upn_eq t _ (by rw [List.length_drop]; omega) (fun i hi x hx => ?_) (fun x hx => ?_)
  · rw [List.getElem?_drop] at hx
    exact upn_lt L t (k + i) (by omega) x hx
  · rw [List.getElem?_drop, show k + (upn L t - k) = upn L t by omega] at hx
    exact upn_at L t x hx
theorem upn_mono {L : List Ver} {s t : Int} (hst : s ≤ t) : upn L s ≤ upn L t := by
  rcases Nat.lt_or_ge (upn L t) (upn L s) with hlt | hge
  · have hl := upn_le L s
    have hx : L[upn L t]? = some (L[upn L t]'(by omega)) := List.getElem?_eq_getElem (by omega)
    have := upn_at L t _ hx
    have := upn_lt L s _ hlt _ hx
    omega
  · exact hge
/-- What is let go nobody sees who asks for that number, or above. -/
theorem getV_trim {L : List Ver} {s t : Int} (hst : s ≤ t) : getV (L.drop (trimN L s)) t = getV L t := by
  have hl := upn_le L t
  have hm := upn_mono (L := L) hst
  have hk := trimN_le_up L s
  have hd := upn_drop L t (trimN L s) (by omega)
  by_cases hall : upn L t = trimN L s
  · have h0 : upn (L.drop (trimN L s)) t = 0 := by omega
    rw [getV_zero h0]
    rcases Nat.eq_zero_or_pos (upn L t) with hz | hz
    · rw [getV_zero hz]
    · obtain ⟨k, hk'⟩ : ∃ k, upn L t = k + 1 := ⟨upn L t - 1, by omega⟩
      have hs : upn L s = k + 1 := by omega
      have hx : L[k]? = some (L[k]'(by omega)) := List.getElem?_eq_getElem (by omega)
      have e := trimN_at hs hx
      rw [getV_at hk' hx]
      split at e
      · rename_i hg; rw [if_pos hg]
      · omega
  · obtain ⟨k, hk'⟩ : ∃ k, upn L t = k + 1 := ⟨upn L t - 1, by omega⟩
    have hx : L[k]? = some (L[k]'(by omega)) := List.getElem?_eq_getElem (by omega)
    have hd' : upn (L.drop (trimN L s)) t = (k - trimN L s) + 1 := by omega
    have hx' : (L.drop (trimN L s))[k - trimN L s]? = some (L[k]'(by omega)) := by
      rw [List.getElem?_drop, show trimN L s + (k - trimN L s) = k by omega]
      exact hx
    rw [getV_at hk' hx, getV_at hd' hx']
theorem trimN_trim (L : List Ver) (t : Int) : trimN (L.drop (trimN L t)) t = 0 := by
  have hl := upn_le L t
  have hk := trimN_le_up L t
  have hd := upn_drop L t (trimN L t) hk
  rcases Nat.eq_zero_or_pos (upn (L.drop (trimN L t)) t) with hz | hz
  · exact trimN_zero hz
  · obtain ⟨k, hk'⟩ : ∃ k, upn L t = k + 1 := ⟨upn L t - 1, by omega⟩
    have hx : L[k]? = some (L[k]'(by omega)) := List.getElem?_eq_getElem (by omega)
    have e := trimN_at hk' hx
    split at e
    · omega
    · rename_i hg
      have h1 : upn (L.drop (trimN L t)) t = 0 + 1 := by omega
      have hx' : (L.drop (trimN L t))[0]? = some (L[k]'(by omega)) := by
        rw [List.getElem?_drop, e, Nat.add_zero]
        exact hx
      rw [trimN_at h1 hx', if_neg hg]

theorem Below.drewP {B : Nat} {a w : World} (h : Below B a w) (k : Nat) : Below B a (w.drewN k) := ⟨h.os, h.tape, h.output, h.size, h.block⟩

/-- A version as its struct has it. -/
structure VerS where
  n : Int
  A : Option Addr
  m : Nat
  c : Nat
  g : Bool
deriving Inhabited
def verLay : Lay VerS where
  z := 3
  cells s := [.int .i64 s.n, .slice s.A s.m s.c, .bool s.g]
  len _ := rfl
  one c u hu := by simp at hu; rcases hu with rfl | rfl | rfl <;> rfl
  pos := by omega
def VerAt (w : World) (s : VerS) (x : Ver) : Prop := x.num = s.n ∧ Seg w s.A s.m x.row ∧ s.m ≤ s.c ∧ s.c ≤ maxLen ∧ x.gone = s.g
def VersAt (w : World) (S : List VerS) (L : List Ver) : Prop := S.length = L.length ∧ ∀ (i : Nat) (s : VerS) (x : Ver), S[i]? = some s → L[i]? = some x → VerAt w s x
/-- The blocks in which the rows of such structs lie. -/
def VerB (S : List VerS) : Nat → Prop := fun k => ∃ s ∈ S, 0 < s.m ∧ ∃ a, s.A = some a ∧ a.block = k

section
variable {w w' : World} {S : List VerS} {L : List Ver} {K : Nat → Prop}
theorem VersAt.nil (w : World) : VersAt w [] [] := ⟨rfl, fun i s x h => by simp at h⟩
theorem VersAt.at_ (h : VersAt w S L) {k : Nat} {x : Ver} (hx : L[k]? = some x) : ∃ s, S[k]? = some s ∧ VerAt w s x := by
  have hk : k < L.length := (List.getElem?_eq_some_iff.1 hx).1
  have hs : S[k]? = some (S[k]'(by rw [h.1]; exact hk)) := List.getElem?_eq_getElem (by rw [h.1]; exact hk)
  exact ⟨_, hs, h.2 k _ x hs hx⟩
theorem VersAt.only (h : VersAt w S L) (hw : Only w w' K) (hK : ∀ k, VerB S k → ¬ K k) : VersAt w' S L :=
  ⟨h.1, fun i s x hs hx => by
    obtain ⟨h1, h2, h3⟩ := h.2 i s x hs hx
    exact ⟨h1, h2.only hw (fun hn a ha => hK a.block ⟨s, List.mem_of_getElem? hs, hn, a, ha, rfl⟩), h3⟩⟩
theorem VersAt.below (h : VersAt w S L) (hb : Below w.heap.size w w') : VersAt w' S L := h.only (Only.of_below (S := fun _ => False) hb) fun _ _ => id
theorem VersAt.push (h : VersAt w S L) {s : VerS} {x : Ver} (hx : VerAt w s x) : VersAt w (S ++ [s]) (L ++ [x]) := by
  refine ⟨by simp [h.1], fun i t y ht hy => ?_⟩
  by_cases hi : i < S.length
  · rw [List.getElem?_append_left hi] at ht
    rw [List.getElem?_append_left (by rw [← h.1]; exact hi)] at hy
    exact h.2 i t y ht hy
  · rw [List.getElem?_append_right (by omega)] at ht
    rw [List.getElem?_append_right (by rw [← h.1]; omega)] at hy
    have hi0 : i - S.length = 0 := by
      have := (List.getElem?_eq_some_iff.1 ht).1
      simp at this
      omega
    rw [hi0] at ht
    rw [← h.1, hi0] at hy
    simp at ht hy
    subst ht hy
    exact hx
theorem VersAt.drop (h : VersAt w S L) (k : Nat) : VersAt w (S.drop k) (L.drop k) :=
  ⟨by simp [h.1], fun i s x hs hx => by
    rw [List.getElem?_drop] at hs hx
    exact h.2 _ s x hs hx⟩
theorem VersAt.lt (h : VersAt w S L) : ∀ k, VerB S k → k < w.heap.size := by
  rintro k ⟨s, hs, hn, a, ha, rfl⟩
  obtain ⟨i, hi⟩ := List.getElem?_of_mem hs
  have hil : i < S.length := (List.getElem?_eq_some_iff.1 hi).1
  have hx : L[i]? = some (L[i]'(by rw [← h.1]; exact hil)) := List.getElem?_eq_getElem (by rw [← h.1]; exact hil)
  exact (h.2 i s _ hi hx).2.1.lt hn a ha
theorem VerB.push {s : VerS} {k : Nat} (h : VerB (S ++ [s]) k) : VerB S k ∨ (0 < s.m ∧ ∃ a, s.A = some a ∧ a.block = k) := by
  obtain ⟨t, ht, hr⟩ := h
  rcases List.mem_append.1 ht with ht | ht
  · exact .inl ⟨t, ht, hr⟩
  · simp at ht
    subst ht
    exact .inr hr
theorem VerB.drop {n k : Nat} (h : VerB (S.drop n) k) : VerB S k := by
  obtain ⟨t, ht, hr⟩ := h
  exact ⟨t, List.mem_of_mem_drop ht, hr⟩
end

/-- A chain at block g: its versions' structs S in the row v of the call's own (from block B on), what they say, and the greatest number. -/
structure Ch (w : World) (B g : Nat) (v : Value) (S : List VerS) (L : List Ver) (last : Int) : Prop where
  h0 : w.cell? ⟨g, 0, none⟩ = some v
  h1 : w.cell? ⟨g, 1, none⟩ = some (.int .i64 last)
  fr : ∀ j, w.frozen? ⟨g, j, none⟩ = false
  own : OwnG verLay w B 59 v S
  rows : VersAt w S L
  ap : v.ownBlock ≠ some g
  hB : B ≤ g
  off : ∀ k, VerB S k → ¬ DkS g v k ∧ B ≤ k
  asc : Asc L last
  h3 : 0 ≤ last

/-- All blocks of a chain. -/
def ChS (g : Nat) (v : Value) (S : List VerS) : Nat → Prop := fun k => DkS g v k ∨ VerB S k
section
variable {w w' : World} {B g : Nat} {v : Value} {S : List VerS} {L : List Ver} {last : Int} {K : Nat → Prop}
theorem Ch.only (h : Ch w B g v S L last) (hw : Only w w' K) (hK : ∀ k, ChS g v S k → ¬ K k) : Ch w' B g v S L last :=
  ⟨hw.cell h.h0 (hK g (.inl (.inl rfl))), hw.cell h.h1 (hK g (.inl (.inl rfl))), fun j => (hw.froz h.h0 (hK g (.inl (.inl rfl))) ⟨g, j, none⟩ rfl).trans (h.fr j),
    h.own.only hw fun k hk => hK k (.inl (.inr hk)), h.rows.only hw fun k hk => hK k (.inr hk), h.ap, h.hB, h.off, h.asc, h.h3⟩
theorem Ch.below (h : Ch w B g v S L last) (hb : Below w.heap.size w w') : Ch w' B g v S L last := h.only (Only.of_below (S := fun _ => False) hb) fun _ _ => id
theorem Ch.drewN (h : Ch w B g v S L last) (n : Nat) : Ch (w.drewN n) B g v S L last := h.only ((Only.refl w fun _ => False).drewN n) fun _ _ => id
theorem Ch.lt (h : Ch w B g v S L last) : ∀ k, ChS g v S k → k < w.heap.size := fun k hk => by
  rcases hk with (rfl | hk) | hk
  · exact World.block_lt_of_cell? w _ h.h0
  · exact (h.own.lt k hk).2
  · exact h.rows.lt k hk
theorem Ch.ge (h : Ch w B g v S L last) : ∀ k, ChS g v S k → B ≤ k := fun k hk => by
  rcases hk with (rfl | hk) | hk
  · exact h.hB
  · exact (h.own.lt k hk).1
  · exact (h.off k hk).2
end

/-- The document's chain: where its versions lie, and what they say. -/
structure Md (w : World) (A : Option Addr) (n c : Nat) (S : List VerS) (L : List Ver) : Prop where
  seg : SegG verLay w A n S
  rows : VersAt w S L
  nc : n ≤ c
  cm : c ≤ maxLen
def MdS (A : Option Addr) (n : Nat) (S : List VerS) : Nat → Prop := fun k => (0 < n ∧ ∃ a, A = some a ∧ a.block = k) ∨ VerB S k
theorem SegG.only {α : Type} {Y : Lay α} {w w' : World} {A : Option Addr} {n : Nat} {l : List α} {K : Nat → Prop} (h : SegG Y w A n l) (hw : Only w w' K) (ha : 0 < n → ∀ a, A = some a → ¬ K a.block) : SegG Y w' A n l := by
  refine ⟨h.1, fun hn => ?_⟩
  obtain ⟨b, o, rfl, hc⟩ := h.2 hn
  exact ⟨b, o, rfl, fun j x hx => hw.cell (hc j x hx) (ha hn ⟨b, o, none⟩ rfl)⟩
theorem SegG.lt {α : Type} {Y : Lay α} {w : World} {A : Option Addr} {n : Nat} {l : List α} (h : SegG Y w A n l) (hn : 0 < n) : ∀ a, A = some a → a.block < w.heap.size := by
  intro a ha
  have hl : 0 < l.length := by rw [h.1]; exact hn
  obtain ⟨g, o, e, hc⟩ := h.at_ hn
  rw [ha] at e
  injection e with e
  subst e
  have hx : (Y.cells l[0])[0]? = some ((Y.cells l[0])[0]'(by rw [Y.len]; exact Y.pos)) := List.getElem?_eq_getElem (by rw [Y.len]; exact Y.pos)
  have hc0 := hc 0 _ hx
  have := World.block_lt_of_cell? w _ hc0
  exact this
section
variable {w w' : World} {A : Option Addr} {n c : Nat} {S : List VerS} {L : List Ver} {K : Nat → Prop}
theorem Md.nil (w : World) : Md w none 0 0 [] [] := ⟨SegG.nil _ _, VersAt.nil _, Nat.le_refl _, Nat.zero_le _⟩
theorem Md.only (h : Md w A n c S L) (hw : Only w w' K) (hK : ∀ k, MdS A n S k → ¬ K k) : Md w' A n c S L :=
  ⟨h.seg.only hw fun hn a ha => hK a.block (.inl ⟨hn, a, ha, rfl⟩), h.rows.only hw fun k hk => hK k (.inr hk), h.nc, h.cm⟩
theorem Md.below (h : Md w A n c S L) (hb : Below w.heap.size w w') : Md w' A n c S L := h.only (Only.of_below (S := fun _ => False) hb) fun _ _ => id
theorem Md.lt (h : Md w A n c S L) : ∀ k, MdS A n S k → k < w.heap.size := fun k hk => by
  rcases hk with ⟨hn, a, ha, rfl⟩ | hk
  · exact h.seg.lt hn a ha
  · exact h.rows.lt k hk
theorem Md.len (h : Md w A n c S L) : L.length = n := by rw [← h.rows.1, h.seg.1]
end

end Go.Proofs.Ytandlkflnfiikaa
