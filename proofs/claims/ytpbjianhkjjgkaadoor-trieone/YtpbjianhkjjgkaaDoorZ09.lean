/-
  Texts of one claim, joined.
-/
import Derived.Test.YtpbjianhkjjgkaaDoorZ01
import Derived.ProofKit
import Derived.OpenShut
import Derived.ShutString
import Derived.ChangeOld
import Derived.Lib.SmallJoins
import Derived.Deep.Slices
import Derived.ChangeSame
import Derived.Test.YtpbjianhkjjgkaaDoorProg
import Derived.Deep.Fields
import Derived.Deep.Grids
import Derived.Test.YtpbjianhkjjgkaaDoorZ0A
namespace Go.Proofs.YtpbjianhkjjgkaaDoor
open Go.ChangeShapes Go.WideShapes Go.ChangeAt Go.RowKit Go.Joins Go.Deep
open Go.ChangeMaps (open_string shut_string)

section
variable {H : Type} {enc : TypeId × Value → H} {P : Program} {W : World} {base : Nat}

theorem open_bytes {t e : TypeId} {v : Value} {d : DataW H} {p : List MemPlace} (ht : P.underlying t = some (.slice e)) (he : P.underlying e = some (.int .u8)) (hC : P.cellsOf e = 1)
    (hv : Value.okWide P W .any base t v) (h : DataW.Trod enc P W 0 (fun _ => true) true t v d p) :
    ∃ (A : Option Addr) (n c : Nat) (l : List UInt8), v = .slice A n c ∧ Seg W A n l ∧ n ≤ c ∧ c ≤ maxLen := by
  obtain ⟨a0, len0, cap0, rfl⟩ := okWide_slice ht hv
  obtain ⟨fuel, hf⟩ := h
  rcases open_ints ht he hC hf with ⟨hcs, _⟩ | ⟨x, l, c, zs, hcs, _, hl, hm, hz, _, hcell, hwz⟩
  · simp [Value.cells] at hcs
    obtain ⟨rfl, rfl, rfl⟩ := hcs
    exact ⟨none, 0, 0, [], rfl, Seg.nil _ _, Nat.le_refl _, Nat.zero_le _⟩
  · simp [Value.cells] at hcs
    obtain ⟨rfl, rfl, rfl⟩ := hcs
    have hzl : zs.length = cap0 := by simpa using hz
    refine ⟨some x, len0, cap0, (zs.take len0).map fun n => UInt8.ofNat n.toNat, rfl, ⟨by simp [hzl]; omega, fun hn => ?_⟩, hl, hm⟩
    obtain ⟨b, off, spot⟩ := x
    have hspot : spot = none := by simpa [Addr.add] using World.cell?_spot (hcell 0 (by omega))
    subst hspot
    refine ⟨b, off, rfl, fun j u hu => ?_⟩
    have hj : j < len0 := by
      have := (List.getElem?_eq_some_iff.1 hu).1
      simp at this
      omega
    have hcj := hcell j (by omega)
    have hadd : (⟨b, off, none⟩ : Addr).add j = ⟨b, off + j, none⟩ := by unfold Addr.add; split <;> simp_all
    rw [hadd] at hcj
    rw [hcj]
    have hjz : j < zs.length := by omega
    have hw := bounds_u8 (hwz _ (List.getElem_mem hjz))
    rw [List.getElem?_map, List.getElem?_take_of_lt hj, List.getElem?_eq_getElem hjz] at hu
    simp only [Option.map_some, Option.some.injEq] at hu
    rw [← hu, UInt8.toNat_ofNat', List.getD_eq_getElem?_getD, List.getElem?_eq_getElem hjz]
    simp only [Option.getD_some]
    congr 2
    omega

/-- What a number, a byte and a text that came in are within. -/
def V.Wide (x : V) : Prop := 0 ≤ x.k ∧ x.k ≤ 255 ∧ -9223372036854775808 ≤ x.n ∧ x.n ≤ 9223372036854775807 ∧ x.s.size ≤ maxLen

theorem open_word {t : TypeId} {f0 f1 f2 : Field} {v : Value} {d : DataW H} {p : List MemPlace} (hs : P.underlying t = some (.struct #[f0, f1, f2])) (hone : oneCellFields P #[f0, f1, f2] = true) (hC : P.cellsOf t = 3)
    (h0 : P.underlying f0.type = some (.int .u8)) (h1 : P.underlying f1.type = some (.int .i64)) (h2 : P.underlying f2.type = some .string)
    (hv : Value.okWide P W .any base t v) (h : DataW.Trod enc P W 0 (fun _ => true) true t v d p) :
    ∃ x : V, v = .agg #[.int .u8 x.k, .int .i64 x.n, .string x.s] ∧ x.Wide := by
  obtain ⟨v0, v1, v2, y0, y1, y2, n, rfl, rfl, rfl, t0, t1, t2⟩ := open_agg3 hs hone hC hv h
  obtain ⟨a, e0, _, wa⟩ := DataW.trod_int h0 t0
  obtain ⟨b, e1, _, wb⟩ := DataW.trod_int h1 t1
  obtain ⟨s, e2, _, ws⟩ := DataW.trod_string h2 t2
  simp only [List.cons.injEq, and_true] at e0 e1 e2
  subst e0 e1 e2
  have ba := bounds_u8 wa
  have bb := bounds_i64 wb
  exact ⟨⟨a, b, s⟩, rfl, ba.1, ba.2, bb.1, bb.2, ws⟩
end

end Go.Proofs.YtpbjianhkjjgkaaDoor

namespace Go.Proofs.YtpbjianhkjjgkaaDoor
open Go.ChangeShapes Go.WideShapes Go.ChangeAt Go.RowKit Go.Joins Go.Deep

/-- The slice 'A, n' holds slices of bytes that read as the lists ls. -/
def SegL (w : World) (A : Option Addr) (n : Nat) (ls : List (List UInt8)) : Prop :=
  ls.length = n ∧ (0 < n → ∃ g o, A = some ⟨g, o, none⟩ ∧ ∀ j l, ls[j]? = some l → ∃ B m c, w.cell? ⟨g, o + j, none⟩ = some (.slice B m c) ∧ Seg w B m l ∧ m ≤ c ∧ c ≤ maxLen)

section
variable {H : Type} {enc : TypeId × Value → H} {P : Program} {W : World} {base : Nat}

theorem open_bytes_cs {t e : TypeId} {cs : List Value} {fuel : Nat} {y : DataW H × List MemPlace} (ht : P.underlying t = some (.slice e)) (he : P.underlying e = some (.int .u8)) (hC : P.cellsOf e = 1)
    (hf : DataW.trod enc P W 0 (fun _ => true) true fuel t cs = some y) :
    ∃ (A : Option Addr) (n c : Nat) (l : List UInt8), cs = [.slice A n c] ∧ Seg W A n l ∧ n ≤ c ∧ c ≤ maxLen := by
  obtain ⟨d, p⟩ := y
  rcases open_ints ht he hC hf with ⟨hcs, _⟩ | ⟨x, len0, cap0, zs, hcs, _, hl, hm, hz, _, hcell, hwz⟩
  · exact ⟨none, 0, 0, [], hcs, Seg.nil _ _, Nat.le_refl _, Nat.zero_le _⟩
  · have hzl : zs.length = cap0 := by simpa using hz
    refine ⟨some x, len0, cap0, (zs.take len0).map fun n => UInt8.ofNat n.toNat, hcs, ⟨by simp [hzl]; omega, fun hn => ?_⟩, hl, hm⟩
    obtain ⟨b, off, spot⟩ := x
    have hspot : spot = none := by simpa [Addr.add] using World.cell?_spot (hcell 0 (by omega))
    subst hspot
    refine ⟨b, off, rfl, fun j u hu => ?_⟩
    have hj : j < len0 := by
      have := (List.getElem?_eq_some_iff.1 hu).1
      simp at this
      omega
    have hcj := hcell j (by omega)
    have hadd : (⟨b, off, none⟩ : Addr).add j = ⟨b, off + j, none⟩ := by unfold Addr.add; split <;> simp_all
    rw [hadd] at hcj
    rw [hcj]
    have hjz : j < zs.length := by omega
    have hw := bounds_u8 (hwz _ (List.getElem_mem hjz))
    rw [List.getElem?_map, List.getElem?_take_of_lt hj, List.getElem?_eq_getElem hjz] at hu
    simp only [Option.map_some, Option.some.injEq] at hu
    rw [← hu, UInt8.toNat_ofNat', List.getD_eq_getElem?_getD, List.getElem?_eq_getElem hjz]
    simp only [Option.getD_some]
    congr 2
    omega

theorem open_bytess {t e b : TypeId} {v : Value} {d : DataW H} {p : List MemPlace} (ht : P.underlying t = some (.slice e)) (he : P.underlying e = some (.slice b)) (hb : P.underlying b = some (.int .u8)) (hCe : P.cellsOf e = 1) (hCb : P.cellsOf b = 1)
    (hv : Value.okWide P W .any base t v) (h : DataW.Trod enc P W 0 (fun _ => true) true t v d p) :
    ∃ (A : Option Addr) (n c : Nat) (ls : List (List UInt8)), v = .slice A n c ∧ SegL W A n ls ∧ n ≤ c ∧ c ≤ maxLen := by
  obtain ⟨a0, len0, cap0, rfl⟩ := okWide_slice ht hv
  obtain ⟨fuel, hf⟩ := h
  rcases open_slice ht hf with ⟨hcs, _⟩ | ⟨a, len, cap, m, n, D, Pl, hcs, _, hl, hm, hmm, _, hi⟩
  · simp [Value.cells] at hcs
    obtain ⟨rfl, rfl, rfl⟩ := hcs
    exact ⟨none, 0, 0, [], rfl, ⟨rfl, fun h => absurd h (by omega)⟩, Nat.le_refl _, Nat.zero_le _⟩
  · simp [Value.cells] at hcs
    obtain ⟨rfl, rfl, rfl⟩ := hcs
    have hmc : m = cap0 := by simpa using hmm
    subst hmc
    have hel : ∀ i, i < len0 → ∃ l : List UInt8, ∃ B k c, W.cell? (a.add i) = some (.slice B k c) ∧ Seg W B k l ∧ k ≤ c ∧ c ≤ maxLen := by
      intro i hil
      obtain ⟨cs', hc, ht'⟩ := hi i (by omega)
      rw [hCe, Nat.mul_one] at hc
      obtain ⟨B, k, c, l, rfl, hs, h1, h2⟩ := open_bytes_cs he hb hCb ht'
      obtain ⟨_, hcl, hat⟩ := World.cells?_some hc
      have hcell := hat 0 (by omega)
      refine ⟨l, B, k, c, ?_, hs, h1, h2⟩
      rw [← show (a.add i).add 0 = a.add i from by simp [Addr.add], hcell]
      rfl
    obtain ⟨F, hF⟩ : ∃ F : Nat → List UInt8, ∀ i, i < len0 → ∃ B k c, W.cell? (a.add i) = some (.slice B k c) ∧ Seg W B k (F i) ∧ k ≤ c ∧ c ≤ maxLen := by
      classical
      refine ⟨fun i => if hi : i < len0 then Classical.choose (hel i hi) else [], fun i hi => ?_⟩
      simp only [dif_pos hi]
      exact Classical.choose_spec (hel i hi)
    refine ⟨some a, len0, m, (List.range len0).map F, rfl, ⟨by simp, fun hn => ?_⟩, hl, hm⟩
    obtain ⟨b, off, spot⟩ := a
    have hspot : spot = none := by
      obtain ⟨B, k, c, h0, _⟩ := hF 0 hn
      simpa [Addr.add] using World.cell?_spot h0
    subst hspot
    have hadd : ∀ j, (⟨b, off, none⟩ : Addr).add j = ⟨b, off + j, none⟩ := fun j => by
      unfold Addr.add
      split
      · subst j; rfl
      · rfl
    refine ⟨b, off, rfl, fun j l hl' => ?_⟩
    have hj : j < len0 := by
      have := (List.getElem?_eq_some_iff.1 hl').1
      simpa using this
    obtain ⟨B, k, c, h0, h1⟩ := hF j hj
    rw [hadd] at h0
    have e : F j = l := by simpa [hj] using hl'
    rw [e] at h1
    exact ⟨B, k, c, h0, h1⟩
end

end Go.Proofs.YtpbjianhkjjgkaaDoor

namespace Go.Proofs.YtpbjianhkjjgkaaDoor
open Go.RowKit

structure Lay (α : Type) where
  z : Nat
  cells : α → List Value
  len : ∀ x, (cells x).length = z
  one : ∀ x, ∀ u ∈ cells x, u.oneCell' = true
  pos : 0 < z

section
variable {α : Type} (Y : Lay α)
def cellsG (l : List α) : List Value := l.flatMap Y.cells
theorem cellsG_nil : cellsG Y [] = [] := rfl
theorem cellsG_cons (x : α) (l : List α) : cellsG Y (x :: l) = Y.cells x ++ cellsG Y l := rfl
theorem cellsG_append (l r : List α) : cellsG Y (l ++ r) = cellsG Y l ++ cellsG Y r := by simp [cellsG]
theorem cellsG_length (l : List α) : (cellsG Y l).length = l.length * Y.z := by
  induction l with
  | nil => simp [cellsG]
  | cons x l ih => rw [cellsG_cons, List.length_append, ih, Y.len, List.length_cons, Nat.add_mul, Nat.one_mul, Nat.add_comm]
theorem cellsG_one (l : List α) : ∀ u ∈ cellsG Y l, u.oneCell' = true := by
  intro u hu
  simp only [cellsG, List.mem_flatMap] at hu
  obtain ⟨x, _, hx⟩ := hu
  exact Y.one x u hx
theorem cellsG_at (l : List α) : ∀ (k : Nat) (h : k < l.length) (j : Nat), j < Y.z → (cellsG Y l)[k * Y.z + j]? = (Y.cells l[k])[j]? := by
  induction l with
  | nil => intro k h; simp at h
  | cons x l ih =>
    intro k h j hj
    rcases k with _ | k
    · rw [cellsG_cons, Nat.zero_mul, Nat.zero_add, List.getElem?_append_left (by rw [Y.len]; exact hj)]
      rfl
    · have e : (k + 1) * Y.z + j = Y.z + (k * Y.z + j) := by rw [Nat.add_mul, Nat.one_mul]; omega
      rw [cellsG_cons, e, List.getElem?_append_right (by rw [Y.len]; omega), Y.len, Nat.add_sub_cancel_left]
      exact ih k (by simpa using h) j hj
theorem cellsG_get (l : List α) (j : Nat) (u : Value) (h : (cellsG Y l)[j]? = some u) : ∃ (k : Nat) (hk : k < l.length) (i : Nat), i < Y.z ∧ j = k * Y.z + i ∧ (Y.cells l[k])[i]? = some u := by
  have hj : j < l.length * Y.z := by
    have := (List.getElem?_eq_some_iff.1 h).1
    rwa [cellsG_length] at this
  have hp := Y.pos
  have hk : j / Y.z < l.length := Nat.div_lt_of_lt_mul (by rw [Nat.mul_comm]; exact hj)
  have hi : j % Y.z < Y.z := Nat.mod_lt _ hp
  have e : j = j / Y.z * Y.z + j % Y.z := by rw [Nat.mul_comm]; exact (Nat.div_add_mod j Y.z).symm
  refine ⟨j / Y.z, hk, j % Y.z, hi, e, ?_⟩
  rw [← cellsG_at Y l _ hk _ hi, ← e]
  exact h
theorem cellsG_set (l : List α) : ∀ (i : Nat) (h : i < l.length) (x : α) (j : Nat) (u : Value), j < Y.z → Y.cells x = (Y.cells l[i]).set j u → cellsG Y (l.set i x) = (cellsG Y l).set (i * Y.z + j) u := by
  induction l with
  | nil => intro i h; simp at h
  | cons y l ih =>
    intro i h x j u hj hx
    rcases i with _ | i
    · rw [List.set_cons_zero, cellsG_cons, cellsG_cons, Nat.zero_mul, Nat.zero_add, List.set_append_left _ _ (by rw [Y.len]; exact hj)]
      rw [hx]
      rfl
    · have e : (i + 1) * Y.z + j = Y.z + (i * Y.z + j) := by rw [Nat.add_mul, Nat.one_mul]; omega
      rw [List.set_cons_succ, cellsG_cons, cellsG_cons, e, List.set_append_right _ _ (by rw [Y.len]; omega), Y.len, Nat.add_sub_cancel_left]
      rw [ih i (by simpa using h) x j u hj hx]
theorem cellsG_drop (l : List α) : ∀ k, cellsG Y (l.drop k) = (cellsG Y l).drop (k * Y.z) := by
  induction l with
  | nil => intro k; simp [cellsG]
  | cons v l ih =>
    intro k
    rcases k with _ | k
    · simp
    · have e : (k + 1) * Y.z = (Y.cells v).length + k * Y.z := by rw [Nat.add_mul, Nat.one_mul, Y.len]; omega
      rw [List.drop_succ_cons, ih k, e, cellsG_cons, List.drop_append]
      simp
theorem cellsG_take (l : List α) : ∀ k, cellsG Y (l.take k) = (cellsG Y l).take (k * Y.z) := by
  induction l with
  | nil => intro k; simp [cellsG]
  | cons v l ih =>
    intro k
    rcases k with _ | k
    · simp [cellsG]
    · have e : (k + 1) * Y.z = (Y.cells v).length + k * Y.z := by rw [Nat.add_mul, Nat.one_mul, Y.len]; omega
      rw [List.take_succ_cons, cellsG_cons, cellsG_cons, ih k, e, List.take_append]
      simp
      exact (List.take_of_length_le (by omega)).symm

/-- The slice 'A, n' holds the elements l in the world w (nil let in). -/
def SegG (w : World) (A : Option Addr) (n : Nat) (l : List α) : Prop :=
  l.length = n ∧ (0 < n → ∃ g o, A = some ⟨g, o, none⟩ ∧ ∀ j u, (cellsG Y l)[j]? = some u → w.cell? ⟨g, o + j, none⟩ = some u)
/-- The slice value v is a row of the call's own (from block 'base' on) and holds the elements l. -/
def OwnG (w : World) (base : Nat) (e : TypeId) (v : Value) (l : List α) : Prop := w.ownsRow base e Y.z v l.length (cellsG Y l)
end

section
variable {α : Type} {Y : Lay α} {w w' : World} {A : Option Addr} {n : Nat} {l : List α}
theorem SegG.nil (w : World) (A : Option Addr) : SegG Y w A 0 [] := ⟨rfl, fun h => absurd h (by omega)⟩
theorem SegG.len (h : SegG Y w A n l) : n = l.length := h.1.symm
theorem SegG.at_ (h : SegG Y w A n l) {k : Nat} (hk : k < n) :
    ∃ g o, A = some ⟨g, o, none⟩ ∧ ∀ j u, (Y.cells (l[k]'(by rw [h.1]; exact hk)))[j]? = some u → w.cell? ⟨g, o + k * Y.z + j, none⟩ = some u := by
  obtain ⟨g, o, e, hc⟩ := h.2 (by omega)
  refine ⟨g, o, e, fun j u hu => ?_⟩
  have hj : j < Y.z := by
    have := (List.getElem?_eq_some_iff.1 hu).1
    rwa [Y.len] at this
  rw [Nat.add_assoc]
  exact hc _ u (by rw [cellsG_at Y l k (by rw [h.1]; exact hk) j hj]; exact hu)
theorem SegG.keep (h : SegG Y w A n l) (hk : ∀ p : Addr, p.block < w.heap.size → w'.cell? p = w.cell? p) : SegG Y w' A n l := by
  refine ⟨h.1, fun hn => ?_⟩
  obtain ⟨g, o, e, hc⟩ := h.2 hn
  refine ⟨g, o, e, fun j b hb => ?_⟩
  have := hc j b hb
  rw [hk _ (World.block_lt_of_cell? w _ this), this]
theorem SegG.below (h : SegG Y w A n l) (hb : Below w.heap.size w w') : SegG Y w' A n l := h.keep fun _ hp => hb.cell hp
theorem SegG.alloc (h : SegG Y w A n l) (o : Obj) : SegG Y (w.alloc o) A n l := h.keep fun p hp => World.cell?_alloc_lt w o p hp
theorem SegG.drewN (h : SegG Y w A n l) (k : Nat) : SegG Y (w.drewN k) A n l := h
theorem SegG.drew (h : SegG Y w A n l) : SegG Y w.drew A n l := h
theorem SegG.newAt (w : World) (l : List α) (t : TypeId) (cs : Array Value) (g n : Nat) (hg : g = w.heap.size) (hcs : cs = (cellsG Y l).toArray) (hn : n = l.length) : SegG Y (w.alloc (.cells cs t)) (some ⟨g, 0, none⟩) n l := by
  subst hg hcs hn
  refine ⟨rfl, fun _ => ⟨_, _, rfl, fun j b hb => ?_⟩⟩
  rw [cell_of_row _ w.heap.size _ _ _ (0, 0) (heap_alloc_new w _), Nat.zero_add]
  simpa using hb
/-- 's[k:]', as the walk writes it. -/
theorem SegG.from_ {g o : Nat} (h : SegG Y w (some ⟨g, o, none⟩) n l) (k c : Nat) (hk : k ≤ n) (hc : n ≤ c) :
    SegG Y w (if c = k then some ⟨g, o, none⟩ else some ⟨g, o + k * Y.z, none⟩) (n - k) (l.drop k) := by
  refine ⟨by rw [List.length_drop, h.1], fun hn => ?_⟩
  rw [if_neg (by omega)]
  refine ⟨g, o + k * Y.z, rfl, fun j u hu => ?_⟩
  obtain ⟨g', o', e, hc'⟩ := h.2 (by omega)
  injection e with e
  injection e with e1 e2
  subst e1 e2
  rw [cellsG_drop, List.getElem?_drop] at hu
  have := hc' _ u hu
  rw [← Nat.add_assoc] at this
  exact this
/-- 's[:k]', as the walk writes it. -/
theorem SegG.upto (h : SegG Y w A n l) (k : Nat) (hk : k ≤ n) : SegG Y w A k (l.take k) := by
  refine ⟨by rw [List.length_take, h.1]; omega, fun hn => ?_⟩
  obtain ⟨g, o, e, hc⟩ := h.2 (by omega)
  exact ⟨g, o, e, fun j u hu => hc j u (by
    rw [cellsG_take, List.getElem?_take] at hu
    split at hu
    · exact hu
    · cases hu)⟩

variable {base : Nat} {e : TypeId} {v : Value}
theorem OwnG.nil (w : World) (base : Nat) (e : TypeId) : OwnG Y w base e (.slice none 0 0) [] := World.ownsRow_nil w base e Y.z
theorem OwnG.forms (h : OwnG Y w base e v l) : ∃ A c, v = .slice A l.length c ∧ SegG Y w A l.length l ∧ l.length ≤ c ∧ c ≤ maxLen := by
  rcases h.2 with ⟨rfl, hn⟩ | ⟨g, cap, cur, rfl, hb, hg, hnc, hcm, hcs, ht⟩
  · have : l = [] := List.eq_nil_of_length_eq_zero hn
    subst this
    exact ⟨none, 0, rfl, SegG.nil _ _, Nat.le_refl _, Nat.zero_le _⟩
  · refine ⟨_, cap, rfl, ⟨rfl, fun _ => ⟨g, 0, rfl, fun j b hb => ?_⟩⟩, hnc, hcm⟩
    have hj : j < l.length * Y.z := by
      have := (List.getElem?_eq_some_iff.1 hb).1
      rwa [cellsG_length] at this
    have h' : w.ownsRow base e Y.z (.slice (some ⟨g, 0, none⟩) l.length cap) l.length (cellsG Y l) := h
    rw [Nat.zero_add, h'.cellAt j hj, hb]
theorem OwnG.lt (h : OwnG Y w base e v l) : ∀ k, v.ownBlock = some k → base ≤ k ∧ k < w.heap.size := World.ownsRow.lt h
theorem OwnG.kept {row : Option Nat} (h : OwnG Y w base e v l) (hg : w.grownBy w' row) (hne : v.ownBlock = none ∨ v.ownBlock ≠ row) : OwnG Y w' base e v l := World.ownsRow.kept h hg hne
theorem OwnG.alloc (h : OwnG Y w base e v l) (o : Obj) : OwnG Y (w.alloc o) base e v l := World.ownsRow.alloc h o
theorem OwnG.drew (h : OwnG Y w base e v l) : OwnG Y w.drew base e v l := h
theorem OwnG.drewN (h : OwnG Y w base e v l) (k : Nat) : OwnG Y (w.drewN k) base e v l := h
theorem OwnG.mono (h : OwnG Y w base e v l) {b : Nat} (hb : b ≤ base) : OwnG Y w b e v l := by
  refine ⟨h.1, ?_⟩
  rcases h.2 with hn | ⟨g, cap, cur, rfl, hbg, rest⟩
  · exact .inl hn
  · exact .inr ⟨g, cap, cur, rfl, Nat.le_trans hb hbg, rest⟩
theorem OwnG.below (h : OwnG Y w base e v l) (hb : Below w.heap.size w w') : OwnG Y w' base e v l :=
  h.kept (row := none) ⟨hb.os, hb.tape, hb.output, hb.size, fun k hk _ => hb.block k hk⟩ (by cases v.ownBlock <;> simp)
/-- A cell of another block is written. -/
theorem OwnG.setFar (h : OwnG Y w base e v l) {p : Addr} (hp : v.ownBlock ≠ some p.block) (u : Value) : OwnG Y (w.setCell p u) base e v l :=
  h.kept (row := some p.block) ⟨rfl, rfl, rfl, by simp [World.setCell], fun k _ hne => Below.heap_setCell w p u k (fun e => hne (by rw [e]))⟩ (.inr hp)
theorem OwnG.new (w : World) (base : Nat) (e : TypeId) (l : List α) (cs : Array Value) (g n c : Nat) (hg : g = w.heap.size) (hcs : cs = (cellsG Y l).toArray) (hn : n = l.length) (hc : c = l.length) (hb : base ≤ w.heap.size) (hm : l.length ≤ maxLen) :
    OwnG Y (w.alloc (.cells cs e)) base e (.slice (some ⟨g, 0, none⟩) n c) l := by
  subst hg hcs hn hc
  exact ⟨by rw [cellsG_length], .inr ⟨w.heap.size, l.length, _, rfl, hb, heap_alloc_new w _, Nat.le_refl _, hm, by simp [cellsG_length], List.take_of_length_le (by simp [cellsG_length])⟩⟩
/-- A cell of a row of the call's own, and the row when it is written over. -/
theorem OwnG.set_ (ho : OwnG Y w base e v l) (i : Nat) (hi : i < l.length) (j : Nat) (hj : j < Y.z) :
    ∃ g cap, v = .slice (some ⟨g, 0, none⟩) l.length cap ∧ base ≤ g ∧ g < w.heap.size ∧ w.cell? ⟨g, i * Y.z + j, none⟩ = (Y.cells l[i])[j]? ∧ w.frozen? ⟨g, i * Y.z + j, none⟩ = false ∧ l.length ≤ cap ∧ cap ≤ maxLen ∧
      ∀ x u, Y.cells x = (Y.cells l[i]).set j u → OwnG Y (w.setCell ⟨g, i * Y.z + j, none⟩ u) base e v (l.set i x) := by
  rcases hh : ho.2 with ⟨_, hz⟩ | ⟨g, cap, cur, e', hb, hg, h3, h4, h5, h6⟩
  · omega
  · subst e'
    have hown : w.ownsRow base e Y.z (.slice (some ⟨g, 0, none⟩) l.length cap) l.length (cellsG Y l) := ho
    have hlt : i * Y.z + j < l.length * Y.z := by
      have : (i + 1) * Y.z ≤ l.length * Y.z := Nat.mul_le_mul_right _ hi
      rw [Nat.add_mul, Nat.one_mul] at this
      omega
    have hc1 : w.cell? ⟨g, i * Y.z + j, none⟩ = (Y.cells l[i])[j]? := by
      rw [hown.cellAt _ hlt, cellsG_at Y l i hi j hj]
    have hsome : (Y.cells l[i])[j]? = some ((Y.cells l[i])[j]'(by rw [Y.len]; exact hj)) := List.getElem?_eq_getElem (by rw [Y.len]; exact hj)
    refine ⟨g, cap, rfl, hb, World.block_lt_of_cell? w _ (hc1.trans hsome), hc1, hown.frozenAt _, h3, h4, fun x u hx => ?_⟩
    have hst := (hown.stored (i * Y.z + j) u).1
    unfold OwnG
    rw [List.length_set, cellsG_set Y l i hi x j u hj hx]
    exact hst
end

/-- A type of slices of such elements, and what the program's table says of an element. -/
structure ElT (P : Program) {α : Type} (Y : Lay α) (t e : TypeId) (zero : Value) (bytes : Nat) : Prop where
  ht : P.underlying t = some (.slice e)
  hi : (P.info? e).map (fun i => (i.zero, i.size, i.bytes)) = some (some zero, Y.z, bytes)
  hz : zero.cells.size = Y.z
  hb : bytes ≤ 120

section
variable {P : Program} {α : Type} {Y : Lay α}
theorem run_append_G (w : World) (t ty e : TypeId) (zero : Value) (bytes : Nat) (hB : ElT P Y t e zero bytes) (base : Nat) (v : Value) (l : List α) (hown : OwnG Y w base e v l)
    (A : Option Addr) (m c : Nat) (r : List α) (hr : SegG Y w A m r) (hlen : l.length + m ≤ 1099511627776) (hbase : base ≤ w.heap.size) :
    ∃ v' w', (Builtin.append_ #[t, t] ty #[v, .slice A m c]).run P w = .ok v' w' ∧ OwnG Y w' base e v' (l ++ r) ∧ w.grownBy w' v.ownBlock ∧
      (v'.ownBlock = v.ownBlock ∨ v'.ownBlock = some w.heap.size) := by
  obtain ⟨i, hi, hz0, hz1, hz2⟩ := info_parts hB.hi
  obtain rfl := hr.len
  rcases Nat.eq_zero_or_pos r.length with h0 | h0
  · have hr0 : r = [] := List.eq_nil_of_length_eq_zero h0
    subst hr0
    refine ⟨v, w, ?_, by simpa using hown, World.grownBy.refl w _, .inl rfl⟩
    rcases hown.2 with ⟨rfl, _⟩ | ⟨g, cap, cur, rfl, _, _, hnc, _⟩
    · cases A <;> simp [Builtin.append_, run_underlying hB.ht, sizeOf, typeInfo, hi, Builtin.lenOf, Builtin.firstCells, loadCells, loadCellsFrom]
    · cases A <;> simp [Builtin.append_, run_underlying hB.ht, sizeOf, typeInfo, hi, Builtin.lenOf, Builtin.firstCells, hnc, storeCells, loadCells, loadCellsFrom]
  · obtain ⟨g, o, rfl, hc⟩ := hr.2 h0
    have hnews : ∀ j u, (cellsG Y r)[j]? = some u → w.cell? ((⟨g, o, none⟩ : Addr).add j) = some u := by
      intro j u hu
      have := hc j u hu
      simp only [Addr.add]
      split
      · subst j; simpa using this
      · exact this
    have hbb : (l.length + r.length) * bytes ≤ 140737488355328 := Nat.le_trans (Nat.mul_le_mul_left _ hB.hb) (by omega)
    obtain ⟨v', w', hrun, h2, h3, _, h5⟩ := run_append_own_at (P := P) w base t ty e i _ Y.z bytes hB.ht hi hz0 hz1 hz2 hB.hz Y.pos v l.length (cellsG Y l) hown ⟨g, o, none⟩ r.length c (cellsG Y r)
      (cellsG_length Y r) hnews (cellsG_one Y r) (by simp only [maxLen]; omega) hbb hbase
    refine ⟨v', w', hrun, ?_, h3, h5⟩
    unfold OwnG
    rw [List.length_append, cellsG_append]
    exact h2

theorem wp_append_G (w : World) {o : Oper} {a : Act} {K : Act → World → Prop} {Q : Exit → Act → World → Prop} (s x : Operand) (t e : TypeId) (zero : Value) (bytes : Nat) (hB : ElT P Y t e zero bytes)
    (ho : o.op = .call { callee := .builtin .append, args := #[s, x], argTypes := #[t, t] })
    (base : Nat) (v : Value) (l : List α) (hs : a.eval s = v) (hown : OwnG Y w base e v l)
    (A : Option Addr) (m c : Nat) (r : List α) (hx : a.eval x = .slice A m c) (hr : SegG Y w A m r) (hlen : l.length + m ≤ 1099511627776) (hbase : base ≤ w.heap.size)
    (h : ∀ v' w', OwnG Y w' base e v' (l ++ r) → w.grownBy w' v.ownBlock → (v'.ownBlock = v.ownBlock ∨ v'.ownBlock = some w.heap.size) → K (a.put o.dst v') w') : o.wp P a w K Q := by
  obtain ⟨v', w', hrun, h2, h3, h4⟩ := run_append_G (P := P) w t o.type e zero bytes hB base v l hown A m c r hr hlen hbase
  unfold Oper.wp execOp
  simp only [ho, resolve, invoke, builtin, Sem.run_bind, Sem.run_pure, Result.andThen_ok, List.map_toArray, List.map_cons, List.map_nil, hs, hx, hrun]
  exact h v' w' h2 h3 h4

theorem wpList_append_G (w : World) {ops : Array Oper} {rest : List Oper} {o : Oper} {a : Act} {Q : Exit → Act → World → Prop} (hgd : o.guard = none) (s x : Operand) (t e : TypeId) (zero : Value) (bytes : Nat) (hB : ElT P Y t e zero bytes)
    (ho : o.op = .call { callee := .builtin .append, args := #[s, x], argTypes := #[t, t] })
    (base : Nat) (v : Value) (l : List α) (hs : a.eval s = v) (hown : OwnG Y w base e v l)
    (A : Option Addr) (m c : Nat) (r : List α) (hx : a.eval x = .slice A m c) (hr : SegG Y w A m r) (hlen : l.length + m ≤ 1099511627776) (hbase : base ≤ w.heap.size)
    (h : ∀ v' w', OwnG Y w' base e v' (l ++ r) → w.grownBy w' v.ownBlock → (v'.ownBlock = v.ownBlock ∨ v'.ownBlock = some w.heap.size) → wpList P ops Q rest (a.put o.dst v') w') : wpList P ops Q (o :: rest) a w :=
  wpList_plain hgd fun _ hK => wp_append_G w s x t e zero bytes hB ho base v l hs hown A m c r hx hr hlen hbase fun v' w' h2 h3 h4 => hK _ _ (h v' w' h2 h3 h4)

theorem step_append_G (w : World) {ops : Array Oper} {o : Oper} {a : Act} {K : Act → World → Prop} {Q : Exit → Act → World → Prop} {E : Prop} (hgd : o.guard = none) (s x : Operand) (t e : TypeId) (zero : Value) (bytes : Nat) (hB : ElT P Y t e zero bytes)
    (ho : o.op = .call { callee := .builtin .append, args := #[s, x], argTypes := #[t, t] })
    (base : Nat) (v : Value) (l : List α) (hs : a.eval s = v) (hown : OwnG Y w base e v l)
    (A : Option Addr) (m c : Nat) (r : List α) (hx : a.eval x = .slice A m c) (hr : SegG Y w A m r) (hlen : l.length + m ≤ 1099511627776) (hbase : base ≤ w.heap.size)
    (h : ∀ v' w', OwnG Y w' base e v' (l ++ r) → w.grownBy w' v.ownBlock → (v'.ownBlock = v.ownBlock ∨ v'.ownBlock = some w.heap.size) → K (a.put o.dst v') w') :
    if Region.wanted o (yielded ops a.tmps) = true then Oper.wp P o a w K Q else E := by
  have hw : Region.wanted o (yielded ops a.tmps) = true := by simp [Region.wanted, hgd]
  rw [if_pos hw]
  exact wp_append_G w s x t e zero bytes hB ho base v l hs hown A m c r hx hr hlen hbase h

theorem below_grownG {B : Nat} {a w w' : World} {v : Value} {base : Nat} {e : TypeId} {l : List α} (h : Below B a w) (ho : OwnG Y w base e v l) (hg : w.grownBy w' v.ownBlock) (hb : B ≤ base) (hB : B ≤ w.heap.size) : Below B a w' :=
  h.grown hg hB fun k hk => Nat.le_trans hb (ho.lt k hk).1
end

end Go.Proofs.YtpbjianhkjjgkaaDoor

namespace Go.Proofs.YtpbjianhkjjgkaaDoor
open Go.RowKit

/-- A column: its name, its kind, may it be nothing. -/
structure Col where
  s : ByteArray
  k : Int
  b : Bool
def colLay : Lay Col where
  z := 3
  cells c := [.string c.s, .int .u8 c.k, .bool c.b]
  len _ := rfl
  one c u hu := by simp at hu; rcases hu with rfl | rfl | rfl <;> rfl
  pos := by omega
/-- A table as its struct has it: its name, where its columns lie, how many are its key. -/
structure TblS where
  s : ByteArray
  A : Option Addr
  n : Nat
  c : Nat
  k : Int
def tblLay : Lay TblS where
  z := 3
  cells t := [.string t.s, .slice t.A t.n t.c, .int .i64 t.k]
  len _ := rfl
  one c u hu := by simp at hu; rcases hu with rfl | rfl | rfl <;> rfl
  pos := by omega
/-- A table. -/
structure Tbl where
  s : ByteArray
  cols : List Col
  k : Int
/-- A form as its struct has it, and a form. -/
structure FrmS where
  A : Option Addr
  n : Nat
  c : Nat
  k : Int
def frmLay : Lay FrmS where
  z := 2
  cells t := [.slice t.A t.n t.c, .int .u8 t.k]
  len _ := rfl
  one c u hu := by simp at hu; rcases hu with rfl | rfl <;> rfl
  pos := by omega
structure Frm where
  cols : List UInt8
  k : Int

/-- Elements that lead on to others: the structs S lie in the row, and each stands for one of L. -/
def SegN {α β : Type} (Y : Lay α) (R : World → α → β → Prop) (w : World) (A : Option Addr) (n : Nat) (L : List β) : Prop :=
  ∃ S : List α, SegG Y w A n S ∧ S.length = L.length ∧ ∀ (i : Nat) (s : α) (t : β), S[i]? = some s → L[i]? = some t → R w s t
section
variable {α β : Type} {Y : Lay α} {R : World → α → β → Prop} {w w' : World} {A : Option Addr} {n : Nat} {L : List β}
theorem SegN.len (h : SegN Y R w A n L) : L.length = n := by
  obtain ⟨S, h1, h2, _⟩ := h
  rw [← h2, h1.1]
theorem SegN.nil (w : World) (A : Option Addr) : SegN Y R w A 0 [] := ⟨[], SegG.nil _ _, rfl, fun i s t h => by cases h⟩
theorem SegN.below (hR : ∀ s t, R w s t → R w' s t) (h : SegN Y R w A n L) (hb : Below w.heap.size w w') : SegN Y R w' A n L := by
  obtain ⟨S, h1, h2, h3⟩ := h
  exact ⟨S, h1.below hb, h2, fun i s t hs ht => hR s t (h3 i s t hs ht)⟩
theorem SegN.at_ (h : SegN Y R w A n L) {k : Nat} (hk : k < n) :
    ∃ g o s, A = some ⟨g, o, none⟩ ∧ (∀ j u, (Y.cells s)[j]? = some u → w.cell? ⟨g, o + k * Y.z + j, none⟩ = some u) ∧ R w s (L[k]'(by rw [h.len]; exact hk)) := by
  have hl := h.len
  obtain ⟨S, h1, h2, h3⟩ := h
  obtain ⟨g, o, e, hc⟩ := h1.at_ hk
  have hS : k < S.length := by rw [h1.1]; exact hk
  exact ⟨g, o, S[k], e, hc, h3 k _ _ (List.getElem?_eq_getElem hS) (List.getElem?_eq_getElem (by rw [hl]; exact hk))⟩
end

abbrev SegC := SegG colLay
def TblAt (w : World) (s : TblS) (t : Tbl) : Prop := t.s = s.s ∧ t.k = s.k ∧ SegC w s.A s.n t.cols ∧ s.n ≤ s.c ∧ s.c ≤ maxLen
def FrmAt (w : World) (s : FrmS) (t : Frm) : Prop := t.k = s.k ∧ Seg w s.A s.n t.cols ∧ s.n ≤ s.c ∧ s.c ≤ maxLen ∧ 0 ≤ t.k ∧ t.k ≤ 255
abbrev SegT := SegN tblLay TblAt
abbrev SegF := SegN frmLay FrmAt
theorem TblAt.below {w w' : World} (hb : Below w.heap.size w w') (s : TblS) (t : Tbl) (h : TblAt w s t) : TblAt w' s t := ⟨h.1, h.2.1, h.2.2.1.below hb, h.2.2.2⟩
theorem FrmAt.below {w w' : World} (hb : Below w.heap.size w w') (s : FrmS) (t : Frm) (h : FrmAt w s t) : FrmAt w' s t := ⟨h.1, h.2.1.below hb, h.2.2⟩
theorem SegT.below {w w' : World} {A : Option Addr} {n : Nat} {L : List Tbl} (h : SegT w A n L) (hb : Below w.heap.size w w') : SegT w' A n L := SegN.below (TblAt.below hb) h hb
theorem SegF.below {w w' : World} {A : Option Addr} {n : Nat} {L : List Frm} (h : SegF w A n L) (hb : Below w.heap.size w w') : SegF w' A n L := SegN.below (FrmAt.below hb) h hb
theorem SegC.at_ {w : World} {A : Option Addr} {n : Nat} {l : List Col} (h : SegC w A n l) {k : Nat} (hk : k < n) :
    ∃ g o, A = some ⟨g, o, none⟩ ∧ w.cell? ⟨g, o + k * 3, none⟩ = some (.string (l[k]'(by rw [h.1]; exact hk)).s) ∧ w.cell? ⟨g, o + k * 3 + 1, none⟩ = some (.int .u8 (l[k]'(by rw [h.1]; exact hk)).k) ∧ w.cell? ⟨g, o + k * 3 + 2, none⟩ = some (.bool (l[k]'(by rw [h.1]; exact hk)).b) := by
  obtain ⟨g, o, e, hc⟩ := SegG.at_ h hk
  exact ⟨g, o, e, hc 0 _ rfl, hc 1 _ rfl, hc 2 _ rfl⟩
theorem SegT.at_ {w : World} {A : Option Addr} {n : Nat} {L : List Tbl} (h : SegT w A n L) {k : Nat} (hk : k < n) :
    ∃ g o B m c, A = some ⟨g, o, none⟩ ∧ w.cell? ⟨g, o + k * 3, none⟩ = some (.string (L[k]'(by rw [h.len]; exact hk)).s) ∧ w.cell? ⟨g, o + k * 3 + 1, none⟩ = some (.slice B m c) ∧ w.cell? ⟨g, o + k * 3 + 2, none⟩ = some (.int .i64 (L[k]'(by rw [h.len]; exact hk)).k) ∧
      SegC w B m (L[k]'(by rw [h.len]; exact hk)).cols ∧ m ≤ c ∧ c ≤ maxLen := by
  obtain ⟨g, o, s, e, hc, h1, h2, h3, h4, h5⟩ := SegN.at_ h hk
  refine ⟨g, o, s.A, s.n, s.c, e, ?_, hc 1 _ rfl, ?_, h3, h4, h5⟩
  · rw [h1]; exact hc 0 _ rfl
  · rw [h2]; exact hc 2 _ rfl
theorem SegF.at_ {w : World} {A : Option Addr} {n : Nat} {L : List Frm} (h : SegF w A n L) {k : Nat} (hk : k < n) :
    ∃ g o B m c, A = some ⟨g, o, none⟩ ∧ w.cell? ⟨g, o + k * 2, none⟩ = some (.slice B m c) ∧ w.cell? ⟨g, o + k * 2 + 1, none⟩ = some (.int .u8 (L[k]'(by rw [h.len]; exact hk)).k) ∧
      Seg w B m (L[k]'(by rw [h.len]; exact hk)).cols ∧ m ≤ c ∧ c ≤ maxLen ∧ 0 ≤ (L[k]'(by rw [h.len]; exact hk)).k ∧ (L[k]'(by rw [h.len]; exact hk)).k ≤ 255 := by
  obtain ⟨g, o, s, e, hc, h1, h2, h3, h4, h5⟩ := SegN.at_ h hk
  refine ⟨g, o, s.A, s.n, s.c, e, hc 0 _ rfl, ?_, h2, h3, h4, h5⟩
  rw [h1]; exact hc 1 _ rfl

end Go.Proofs.YtpbjianhkjjgkaaDoor

namespace Go.Proofs.YtpbjianhkjjgkaaDoor
open Go.ChangeShapes Go.WideShapes Go.ChangeAt Go.RowKit Go.Joins Go.Deep

section
variable {H : Type} {enc : TypeId × Value → H} {P : Program} {W : World} {base : Nat}

/-- The cells of a slice of structs, field by field. -/
theorem open_rows {t e : TypeId} {fs : Array Field} {v : Value} {d : DataW H} {p : List MemPlace} (ht : P.underlying t = some (.slice e)) (hs : P.underlying e = some (.struct fs)) (hone : oneCellFields P fs = true) (hC : P.cellsOf e = fs.size)
    (hv : Value.okWide P W .any base t v) (h : DataW.Trod enc P W 0 (fun _ => true) true t v d p) :
    (∃ c, v = .slice none 0 0 ∧ c = 0) ∨ ∃ a n c, v = .slice (some a) n c ∧ n ≤ c ∧ c ≤ maxLen ∧ ∀ i, i < n → ∃ n', ∀ (j : Nat) (f : Field), fs[j]? = some f →
      ∃ (u : Value) (y : DataW H × List MemPlace), W.cell? (a.add (i * fs.size + j)) = some u ∧ DataW.trod enc P W 0 (fun _ => true) true n' f.type [u] = some y := by
  obtain ⟨a0, len0, cap0, rfl⟩ := okWide_slice ht hv
  obtain ⟨fuel, hf⟩ := h
  rcases open_slice ht hf with ⟨hcs, _⟩ | ⟨a, len, cap, m, n, D, Pl, hcs, _, hl, hm, hmm, _, hi⟩
  · simp [Value.cells] at hcs
    obtain ⟨rfl, rfl, rfl⟩ := hcs
    exact .inl ⟨0, rfl, rfl⟩
  · simp [Value.cells] at hcs
    obtain ⟨rfl, rfl, rfl⟩ := hcs
    have hmc : m = cap0 := by simpa using hmm
    subst hmc
    refine .inr ⟨a, len0, m, rfl, hl, hm, fun i hil => ?_⟩
    obtain ⟨cs', hc, ht'⟩ := hi i (by omega)
    rw [hC] at hc
    obtain ⟨ys, n', hn', hy, hlen, hyl, hf'⟩ := DataW.trod_struct hs ht'
    obtain ⟨_, hcl, hat⟩ := World.cells?_some hc
    refine ⟨n', fun j f hj => ?_⟩
    obtain ⟨ho, hk⟩ := hone_of hone j f hj
    have hjl : j < fs.size := (Array.getElem?_eq_some_iff.1 hj).1
    have hcell := hat j hjl
    have h1 := hf' j f hj
    rw [ho, hk] at h1
    have hone' : (cs'.drop j).take 1 = [cs'[j]'(by omega)] := by
      rw [List.drop_eq_getElem_cons (by omega)]
      rfl
    rw [hone'] at h1
    have hyl' : ys.length = fs.size := by simpa using hyl
    have hys : ys[j]? = some (ys[j]'(by omega)) := List.getElem?_eq_getElem (by omega)
    refine ⟨_, _, ?_, h1.trans hys⟩
    rw [← Go.Deep.add_add, hcell, List.getElem?_eq_getElem (by omega)]

theorem addr_addG (b off j : Nat) : (⟨b, off, none⟩ : Addr).add j = ⟨b, off + j, none⟩ := by
  unfold Addr.add
  split
  · subst j; rfl
  · rfl

/-- Elements that are found one by one make a list. -/
theorem segN_of {α β : Type} [Inhabited α] [Inhabited β] (Y : Lay α) (R : World → α → β → Prop) (a : Addr) (n : Nat) (h : ∀ i, i < n → ∃ (s : α) (x : β), R W s x ∧ ∀ j u, (Y.cells s)[j]? = some u → W.cell? (a.add (i * Y.z + j)) = some u) :
    ∃ L : List β, SegN Y R W (some a) n L := by
  obtain ⟨F, hF⟩ : ∃ F : Nat → α × β, ∀ i, i < n → R W (F i).1 (F i).2 ∧ ∀ j u, (Y.cells (F i).1)[j]? = some u → W.cell? (a.add (i * Y.z + j)) = some u := by
    classical
    refine ⟨fun i => if hi : i < n then ⟨Classical.choose (h i hi), Classical.choose (Classical.choose_spec (h i hi))⟩ else ⟨default, default⟩, fun i hi => ?_⟩
    simp only [dif_pos hi]
    exact Classical.choose_spec (Classical.choose_spec (h i hi))
  refine ⟨(List.range n).map fun i => (F i).2, (List.range n).map fun i => (F i).1, ⟨by simp, fun hn => ?_⟩, by simp, ?_⟩
  · obtain ⟨b, off, spot⟩ := a
    have hz : (Y.cells (F 0).1)[0]? = some ((Y.cells (F 0).1)[0]'(by rw [Y.len]; exact Y.pos)) := List.getElem?_eq_getElem (by rw [Y.len]; exact Y.pos)
    have hspot : spot = none := by
      have := World.cell?_spot ((hF 0 hn).2 0 _ hz)
      simpa [Addr.add] using this
    subst hspot
    refine ⟨b, off, rfl, fun j u hu => ?_⟩
    obtain ⟨k, hk, i, hi2, rfl, hh⟩ := cellsG_get _ _ j u hu
    have hk' : k < n := by simpa using hk
    have eg : ((List.range n).map fun i => (F i).1)[k]'hk = (F k).1 := by simp
    rw [eg] at hh
    have := (hF k hk').2 i u hh
    rw [addr_addG] at this
    exact this
  · intro i s x hs' hx'
    have hi : i < n := by
      have := (List.getElem?_eq_some_iff.1 hs').1
      simpa using this
    have e1 : (F i).1 = s := by simpa [hi] using hs'
    have e2 : (F i).2 = x := by simpa [hi] using hx'
    rw [← e1, ← e2]
    exact (hF i hi).1
end

/-- An act of the disk's laws as its struct has it, and an act. -/
structure DActS where
  d : Int
  n : Int
  A : Option Addr
  m : Nat
  c : Nat
deriving Inhabited
def dactLay : Lay DActS where
  z := 3
  cells s := [.int .u8 s.d, .int .i64 s.n, .slice s.A s.m s.c]
  len _ := rfl
  one c u hu := by simp at hu; rcases hu with rfl | rfl | rfl <;> rfl
  pos := by omega
structure DAct where
  d : Nat
  n : Int
  p : List UInt8
deriving Inhabited
def DActAt (w : World) (s : DActS) (x : DAct) : Prop := (x.d : Int) = s.d ∧ x.n = s.n ∧ Seg w s.A s.m x.p ∧ s.m ≤ s.c ∧ s.c ≤ maxLen ∧ x.d < 256 ∧ -9223372036854775808 ≤ x.n ∧ x.n ≤ 9223372036854775807
abbrev SegDA := SegN dactLay DActAt
theorem DActAt.below {w w' : World} (hb : Below w.heap.size w w') (s : DActS) (t : DAct) (h : DActAt w s t) : DActAt w' s t := ⟨h.1, h.2.1, h.2.2.1.below hb, h.2.2.2⟩
theorem SegDA.below {w w' : World} {A : Option Addr} {n : Nat} {L : List DAct} (h : SegDA w A n L) (hb : Below w.heap.size w w') : SegDA w' A n L := SegN.below (DActAt.below hb) h hb
theorem SegDA.at_ {w : World} {A : Option Addr} {n : Nat} {L : List DAct} (h : SegDA w A n L) {k : Nat} (hk : k < n) (x : DAct) (hx : L[k]'(by rw [h.len]; exact hk) = x) :
    ∃ g o B m c, A = some ⟨g, o, none⟩ ∧ w.cell? ⟨g, o + k * 3, none⟩ = some (.int .u8 (x.d : Int)) ∧ w.cell? ⟨g, o + k * 3 + 1, none⟩ = some (.int .i64 x.n) ∧ w.cell? ⟨g, o + k * 3 + 2, none⟩ = some (.slice B m c) ∧
      Seg w B m x.p ∧ m ≤ c ∧ c ≤ maxLen ∧ x.d < 256 ∧ -9223372036854775808 ≤ x.n ∧ x.n ≤ 9223372036854775807 := by
  subst hx
  obtain ⟨g, o, s, e, hc, h1, h2, h3, h4, h5, h6⟩ := SegN.at_ h hk
  refine ⟨g, o, s.A, s.m, s.c, e, ?_, ?_, hc 2 _ rfl, h3, h4, h5, h6⟩
  · rw [h1]; exact hc 0 _ rfl
  · rw [h2]; exact hc 1 _ rfl

section
variable {H : Type} {enc : TypeId × Value → H} {P : Program} {W : World} {base : Nat}
theorem open_dacts {t e bs : TypeId} {f0 f1 f2 : Field} {v : Value} {d : DataW H} {p : List MemPlace} (ht : P.underlying t = some (.slice e)) (hs : P.underlying e = some (.struct #[f0, f1, f2])) (hone : oneCellFields P #[f0, f1, f2] = true) (hC : P.cellsOf e = 3)
    (h0 : P.underlying f0.type = some (.int .u8)) (h1 : P.underlying f1.type = some (.int .i64)) (h2 : P.underlying f2.type = some (.slice bs)) (hbs : P.underlying bs = some (.int .u8)) (hCb : P.cellsOf bs = 1)
    (hv : Value.okWide P W .any base t v) (h : DataW.Trod enc P W 0 (fun _ => true) true t v d p) :
    ∃ (A : Option Addr) (n c : Nat) (L : List DAct), v = .slice A n c ∧ SegDA W A n L ∧ n ≤ c ∧ c ≤ maxLen := by
  rcases open_rows ht hs hone hC hv h with ⟨_, rfl, _⟩ | ⟨a, n, c, rfl, hl, hm, hel⟩
  · exact ⟨none, 0, 0, [], rfl, SegN.nil _ _, Nat.le_refl _, Nat.zero_le _⟩
  · obtain ⟨L, hL⟩ := segN_of dactLay DActAt a n (fun i hi => by
      obtain ⟨n', hg⟩ := hel i hi
      obtain ⟨u0, y0, c0, t0⟩ := hg 0 f0 rfl
      obtain ⟨u1, y1, c1, t1⟩ := hg 1 f1 rfl
      obtain ⟨u2, y2, c2, t2⟩ := hg 2 f2 rfl
      obtain ⟨x, e0, _, wa⟩ := DataW.trod_int h0 t0
      obtain ⟨z, e1, _, wb⟩ := DataW.trod_int h1 t1
      obtain ⟨B, k, c, l, e2, hsB, hkc, hcm⟩ := open_bytes_cs h2 hbs hCb t2
      simp only [List.cons.injEq, and_true] at e0 e1 e2
      subst e0 e1 e2
      have ba := bounds_u8 wa
      have bb := bounds_i64 wb
      refine ⟨⟨x, z, B, k, c⟩, ⟨x.toNat, z, l⟩, ⟨?_, rfl, hsB, hkc, hcm, ?_, bb.1, bb.2⟩, fun j u hu => ?_⟩
      · show ((x.toNat : Nat) : Int) = x
        omega
      · show x.toNat < 256
        omega
      · rcases j with _ | _ | _ | j
        · have e : u = .int .u8 x := by injection hu with hu; exact hu.symm
          rw [e]
          exact c0
        · have e : u = .int .i64 z := by injection hu with hu; exact hu.symm
          rw [e]
          exact c1
        · have e : u = .slice B k c := by injection hu with hu; exact hu.symm
          rw [e]
          exact c2
        · cases hu)
    exact ⟨some a, n, c, L, rfl, hL, hl, hm⟩
end

end Go.Proofs.YtpbjianhkjjgkaaDoor

namespace Go.Proofs.YtpbjianhkjjgkaaDoor
open Go.ChangeShapes Go.WideShapes Go.ChangeAt Go.RowKit Go.Joins Go.Deep

/-- An act of the trees' laws as its struct has it, and an act. -/
structure TActS where
  b : Bool
  k : Int
  A : Option Addr
  m : Nat
  c : Nat
deriving Inhabited
def tactLay : Lay TActS where
  z := 3
  cells s := [.bool s.b, .int .u8 s.k, .slice s.A s.m s.c]
  len _ := rfl
  one c u hu := by simp at hu; rcases hu with rfl | rfl | rfl <;> rfl
  pos := by omega
structure TAct where
  b : Bool
  k : Nat
  p : List UInt8
deriving Inhabited
def TActAt (w : World) (s : TActS) (x : TAct) : Prop := x.b = s.b ∧ (x.k : Int) = s.k ∧ Seg w s.A s.m x.p ∧ s.m ≤ s.c ∧ s.c ≤ maxLen ∧ x.k < 256
abbrev SegTA := SegN tactLay TActAt
theorem TActAt.below {w w' : World} (hb : Below w.heap.size w w') (s : TActS) (t : TAct) (h : TActAt w s t) : TActAt w' s t := ⟨h.1, h.2.1, h.2.2.1.below hb, h.2.2.2⟩
theorem SegTA.below {w w' : World} {A : Option Addr} {n : Nat} {L : List TAct} (h : SegTA w A n L) (hb : Below w.heap.size w w') : SegTA w' A n L := SegN.below (TActAt.below hb) h hb
theorem SegTA.at_ {w : World} {A : Option Addr} {n : Nat} {L : List TAct} (h : SegTA w A n L) {k : Nat} (hk : k < n) (x : TAct) (hx : L[k]'(by rw [h.len]; exact hk) = x) :
    ∃ g o B m c, A = some ⟨g, o, none⟩ ∧ w.cell? ⟨g, o + k * 3, none⟩ = some (.bool x.b) ∧ w.cell? ⟨g, o + k * 3 + 1, none⟩ = some (.int .u8 (x.k : Int)) ∧ w.cell? ⟨g, o + k * 3 + 2, none⟩ = some (.slice B m c) ∧
      Seg w B m x.p ∧ m ≤ c ∧ c ≤ maxLen ∧ x.k < 256 := by
  subst hx
  obtain ⟨g, o, s, e, hc, h1, h2, h3, h4, h5, h6⟩ := SegN.at_ h hk
  refine ⟨g, o, s.A, s.m, s.c, e, ?_, ?_, hc 2 _ rfl, h3, h4, h5, h6⟩
  · rw [h1]; exact hc 0 _ rfl
  · rw [h2]; exact hc 1 _ rfl

section
variable {H : Type} {enc : TypeId × Value → H} {P : Program} {W : World} {base : Nat}
theorem open_tacts {t e bs : TypeId} {f0 f1 f2 : Field} {v : Value} {d : DataW H} {p : List MemPlace} (ht : P.underlying t = some (.slice e)) (hs : P.underlying e = some (.struct #[f0, f1, f2])) (hone : oneCellFields P #[f0, f1, f2] = true) (hC : P.cellsOf e = 3)
    (h0 : P.underlying f0.type = some .bool) (h1 : P.underlying f1.type = some (.int .u8)) (h2 : P.underlying f2.type = some (.slice bs)) (hbs : P.underlying bs = some (.int .u8)) (hCb : P.cellsOf bs = 1)
    (hv : Value.okWide P W .any base t v) (h : DataW.Trod enc P W 0 (fun _ => true) true t v d p) :
    ∃ (A : Option Addr) (n c : Nat) (L : List TAct), v = .slice A n c ∧ SegTA W A n L ∧ n ≤ c ∧ c ≤ maxLen := by
  rcases open_rows ht hs hone hC hv h with ⟨_, rfl, _⟩ | ⟨a, n, c, rfl, hl, hm, hel⟩
  · exact ⟨none, 0, 0, [], rfl, SegN.nil _ _, Nat.le_refl _, Nat.zero_le _⟩
  · obtain ⟨L, hL⟩ := segN_of tactLay TActAt a n (fun i hi => by
      obtain ⟨n', hg⟩ := hel i hi
      obtain ⟨u0, y0, c0, t0⟩ := hg 0 f0 rfl
      obtain ⟨u1, y1, c1, t1⟩ := hg 1 f1 rfl
      obtain ⟨u2, y2, c2, t2⟩ := hg 2 f2 rfl
      obtain ⟨x, e0, _⟩ := DataW.trod_bool h0 t0
      obtain ⟨z, e1, _, wb⟩ := DataW.trod_int h1 t1
      obtain ⟨B, k, c, l, e2, hsB, hkc, hcm⟩ := open_bytes_cs h2 hbs hCb t2
      simp only [List.cons.injEq, and_true] at e0 e1 e2
      subst e0 e1 e2
      have bb := bounds_u8 wb
      refine ⟨⟨x, z, B, k, c⟩, ⟨x, z.toNat, l⟩, ⟨rfl, ?_, hsB, hkc, hcm, ?_⟩, fun j u hu => ?_⟩
      · show ((z.toNat : Nat) : Int) = z
        omega
      · show z.toNat < 256
        omega
      · rcases j with _ | _ | _ | j
        · have e : u = .bool x := by injection hu with hu; exact hu.symm
          rw [e]
          exact c0
        · have e : u = .int .u8 z := by injection hu with hu; exact hu.symm
          rw [e]
          exact c1
        · have e : u = .slice B k c := by injection hu with hu; exact hu.symm
          rw [e]
          exact c2
        · cases hu)
    exact ⟨some a, n, c, L, rfl, hL, hl, hm⟩
end

/-- Turns in memory. -/
def boolLay : Lay Bool where
  z := 1
  cells b := [.bool b]
  len _ := rfl
  one c u hu := by simp at hu; subst hu; rfl
  pos := by omega
theorem SegG.boolAt {w : World} {A : Option Addr} {n : Nat} {l : List Bool} (h : SegG boolLay w A n l) {k : Nat} (hk : k < n) :
    ∃ g o, A = some ⟨g, o, none⟩ ∧ w.cell? ⟨g, o + k, none⟩ = some (.bool (l[k]'(by rw [h.1]; exact hk))) := by
  obtain ⟨g, o, e, hc⟩ := SegG.at_ h hk
  refine ⟨g, o, e, ?_⟩
  have := hc 0 _ rfl
  rw [show o + k * boolLay.z + 0 = o + k from by show o + k * 1 + 0 = o + k; omega] at this
  exact this

section
variable {H : Type} {enc : TypeId × Value → H} {P : Program} {W : World} {base : Nat}
theorem open_boolL {t e : TypeId} {v : Value} {d : DataW H} {p : List MemPlace} (ht : P.underlying t = some (.slice e)) (he : P.underlying e = some .bool) (hC : P.cellsOf e = 1)
    (hv : Value.okWide P W .any base t v) (h : DataW.Trod enc P W 0 (fun _ => true) true t v d p) :
    ∃ (A : Option Addr) (n c : Nat) (l : List Bool), v = .slice A n c ∧ SegG boolLay W A n l ∧ n ≤ c ∧ c ≤ maxLen := by
  obtain ⟨a0, len0, cap0, rfl⟩ := okWide_slice ht hv
  obtain ⟨fuel, hf⟩ := h
  rcases open_bools ht he hC hf with ⟨hcs, _⟩ | ⟨x, l, c, B, hcs, _, hl, hm, _, hcell⟩
  · simp [Value.cells] at hcs
    obtain ⟨rfl, rfl, rfl⟩ := hcs
    exact ⟨none, 0, 0, [], rfl, SegG.nil _ _, Nat.le_refl _, Nat.zero_le _⟩
  · simp [Value.cells] at hcs
    obtain ⟨rfl, rfl, rfl⟩ := hcs
    refine ⟨some x, len0, cap0, (List.range len0).map B, rfl, ⟨by simp, fun hn => ?_⟩, hl, hm⟩
    obtain ⟨b, off, spot⟩ := x
    have hspot : spot = none := by simpa [Addr.add] using World.cell?_spot (hcell 0 (by omega))
    subst hspot
    refine ⟨b, off, rfl, fun j u hu => ?_⟩
    obtain ⟨k, hk, i, hi, e1, hh⟩ := cellsG_get boolLay _ j u hu
    have hi0 : i = 0 := by have : i < 1 := hi; omega
    subst hi0
    have e2 : j = k := by rw [e1]; show k * 1 + 0 = k; omega
    subst e2
    have hk' : j < len0 := by simpa using hk
    have e3 : ((List.range len0).map B)[j]'hk = B j := by simp
    rw [e3] at hh
    have e4 : u = .bool (B j) := by injection hh with hh; exact hh.symm
    have := hcell j (by omega)
    rw [addr_addG] at this
    rw [e4, this]
end

end Go.Proofs.YtpbjianhkjjgkaaDoor

namespace Go.Proofs.YtpbjianhkjjgkaaDoor
open Go.RowKit

structure BsS where
  A : Option Addr
  n : Nat
  c : Nat
def bsLay : Lay BsS where
  z := 1
  cells s := [.slice s.A s.n s.c]
  len _ := rfl
  one c u hu := by simp at hu; rcases hu with rfl; rfl
  pos := by omega
theorem bsT : ElT Tryd.prog bsLay 70 29 (.slice none 0 0) 24 := ⟨Tryd.underlying70, by kernel_rfl, rfl, by omega⟩

def BsAt (w : World) (base : Nat) (v : Value) (s : BsS) (l : List UInt8) : Prop := Seg w s.A s.n l ∧ s.n ≤ s.c ∧ s.c ≤ maxLen ∧ (0 < s.n → ∀ a, s.A = some a → v.ownBlock ≠ some a.block ∧ base ≤ a.block)
/-- The slice value v is a row of the call's own and holds slices of bytes that read as the lists ls. -/
def OwnL (w : World) (base : Nat) (v : Value) (ls : List (List UInt8)) : Prop :=
  ∃ S : List BsS, OwnG bsLay w base 29 v S ∧ S.length = ls.length ∧ ∀ (i : Nat) (s : BsS) (l : List UInt8), S[i]? = some s → ls[i]? = some l → BsAt w base v s l

theorem OwnL.nil (w : World) (base : Nat) : OwnL w base (.slice none 0 0) [] := ⟨[], OwnG.nil _ _ _, rfl, fun i s l h => by simp at h⟩
theorem OwnL.below {w w' : World} {base : Nat} {v : Value} {ls : List (List UInt8)} (h : OwnL w base v ls) (hb : Below w.heap.size w w') : OwnL w' base v ls := by
  obtain ⟨S, h1, h2, h3⟩ := h
  exact ⟨S, h1.below hb, h2, fun i s l hs hl => ⟨(h3 i s l hs hl).1.below hb, (h3 i s l hs hl).2⟩⟩
theorem OwnL.drewN {w : World} {base : Nat} {v : Value} {ls : List (List UInt8)} (h : OwnL w base v ls) (k : Nat) : OwnL (w.drewN k) base v ls := h
theorem OwnL.seg {w : World} {base : Nat} {v : Value} {ls : List (List UInt8)} (h : OwnL w base v ls) : ∃ A c, v = .slice A ls.length c ∧ SegL w A ls.length ls ∧ ls.length ≤ c ∧ c ≤ maxLen := by
  obtain ⟨S, h1, h2, h3⟩ := h
  obtain ⟨A, c, e, hs, hl, hc⟩ := h1.forms
  rw [h2] at e hs hl
  refine ⟨A, c, e, ⟨rfl, fun hn => ?_⟩, hl, hc⟩
  obtain ⟨g, o, rfl, _⟩ := hs.2 hn
  refine ⟨g, o, rfl, fun j l hj => ?_⟩
  have hjl : j < ls.length := (List.getElem?_eq_some_iff.1 hj).1
  have hjS : j < S.length := by omega
  obtain ⟨g', o', e', hc'⟩ := hs.at_ (k := j) hjl
  injection e' with e'
  injection e' with e1 e2
  subst e1 e2
  have hcell := hc' 0 _ rfl
  have hx := h3 j _ l (List.getElem?_eq_getElem hjS) hj
  refine ⟨_, _, _, ?_, hx.1, hx.2.1, hx.2.2.1⟩
  rw [show o + j = o + j * bsLay.z + 0 by show o + j = o + j * 1 + 0; omega]
  exact hcell
theorem OwnL.append {w w' : World} {base : Nat} {v v' : Value} {L : List (List UInt8)} {S : List BsS} {s : BsS} {q : List UInt8} {o : Obj}
    (hSl : S.length = L.length) (hSe : ∀ (i : Nat) (s : BsS) (l : List UInt8), S[i]? = some s → L[i]? = some l → BsAt w base v s l) (hq : BsAt w base v s q)
    (ho : OwnG bsLay w' base 29 v' (S ++ [s])) (hg : (w.alloc o).grownBy w' v.ownBlock) (hv : v'.ownBlock = v.ownBlock ∨ v'.ownBlock = some (w.alloc o).heap.size) :
    OwnL w' base v' (L ++ [q]) := by
  have step : ∀ (t : BsS) (l : List UInt8), BsAt w base v t l → BsAt w' base v' t l := by
    intro t l ⟨h1, h2, h3, h4⟩
    have hon : Only (w.alloc o) w' (fun k => v.ownBlock = some k) := Only.of_grown hg fun k hk => hk
    refine ⟨(h1.alloc o).only hon fun hn a ha => (h4 hn a ha).1, h2, h3, fun hn a ha => ⟨fun e => ?_, (h4 hn a ha).2⟩⟩
    rcases hv with hv | hv
    · exact (h4 hn a ha).1 (by rw [← hv]; exact e)
    · rw [hv] at e
      injection e with e
      have := h1.lt hn a ha
      have hz : (w.alloc o).heap.size = w.heap.size + 1 := by simp
      omega
  refine ⟨S ++ [s], ho, by simp [hSl], fun i t l ht hl => ?_⟩
  by_cases hi : i < S.length
  · rw [List.getElem?_append_left hi] at ht
    rw [List.getElem?_append_left (by omega)] at hl
    exact step t l (hSe i t l ht hl)
  · rw [List.getElem?_append_right (by omega)] at ht
    rw [List.getElem?_append_right (by omega)] at hl
    have hi0 : i - S.length = 0 := by
      have := (List.getElem?_eq_some_iff.1 ht).1
      simp at this
      omega
    rw [hi0] at ht
    rw [← hSl, hi0] at hl
    simp at ht hl
    subst ht hl
    exact step _ _ hq

theorem OwnG.only {α : Type} {Y : Lay α} {w w' : World} {base : Nat} {e : TypeId} {v : Value} {l : List α} {S : Nat → Prop} (h : OwnG Y w base e v l) (hw : Only w w' S) (hv : ∀ k, v.ownBlock = some k → ¬ S k) : OwnG Y w' base e v l := by
  have hlt := h.lt
  refine ⟨h.1, ?_⟩
  rcases h.2 with hn | ⟨g, cap, cur, rfl, hbg, hg, rest⟩
  · exact .inl hn
  · exact .inr ⟨g, cap, cur, rfl, hbg, (hw.block g (hlt g rfl).2 (hv g rfl)).trans hg, rest⟩
theorem OwnL.only {w w' : World} {base : Nat} {v : Value} {ls : List (List UInt8)} {S : Nat → Prop} (h : OwnL w base v ls) (ho : Only w w' S) (hS : ∀ k, base ≤ k → k < w.heap.size → ¬ S k) : OwnL w' base v ls := by
  obtain ⟨S0, h1, h2, h3⟩ := h
  refine ⟨S0, h1.only ho fun k hk => hS k (h1.lt k hk).1 (h1.lt k hk).2, h2, fun i s l hs hl => ?_⟩
  obtain ⟨q1, q2, q3, q4⟩ := h3 i s l hs hl
  exact ⟨q1.only ho fun hn a ha => hS a.block (q4 hn a ha).2 (q1.lt hn a ha), q2, q3, q4⟩
theorem OwnL.mono {w : World} {base b : Nat} {v : Value} {ls : List (List UInt8)} (h : OwnL w base v ls) (hb : b ≤ base) : OwnL w b v ls := by
  obtain ⟨S0, h1, h2, h3⟩ := h
  refine ⟨S0, h1.mono hb, h2, fun i s l hs hl => ?_⟩
  obtain ⟨q1, q2, q3, q4⟩ := h3 i s l hs hl
  exact ⟨q1, q2, q3, fun hn a ha => ⟨(q4 hn a ha).1, Nat.le_trans hb (q4 hn a ha).2⟩⟩
theorem SegL.below {w w' : World} {A : Option Addr} {n : Nat} {L : List (List UInt8)} (h : SegL w A n L) (hb : Below w.heap.size w w') : SegL w' A n L := by
  refine ⟨h.1, fun hn => ?_⟩
  obtain ⟨g, o, e, hc⟩ := h.2 hn
  refine ⟨g, o, e, fun j l hj => ?_⟩
  obtain ⟨B, m, c, h1, h2, h3⟩ := hc j l hj
  exact ⟨B, m, c, cell_below hb h1, h2.below hb, h3⟩
theorem SegL.nil (w : World) (A : Option Addr) : SegL w A 0 [] := ⟨rfl, fun h => absurd h (by omega)⟩
theorem SegL.upto {w : World} {A : Option Addr} {n : Nat} {L : List (List UInt8)} (h : SegL w A n L) (k : Nat) (hk : k ≤ n) : SegL w A k (L.take k) := by
  refine ⟨by rw [List.length_take, h.1]; omega, fun hn => ?_⟩
  obtain ⟨g, o, e, hc⟩ := h.2 (by omega)
  exact ⟨g, o, e, fun j l hj => hc j l (by
    rw [List.getElem?_take] at hj
    split at hj
    · exact hj
    · cases hj)⟩
theorem SegL.from_ {w : World} {g o n : Nat} {L : List (List UInt8)} (h : SegL w (some ⟨g, o, none⟩) n L) (k c : Nat) (hk : k ≤ n) (hc : n ≤ c) :
    SegL w (if c = k then some ⟨g, o, none⟩ else some ⟨g, o + k, none⟩) (n - k) (L.drop k) := by
  refine ⟨by rw [List.length_drop, h.1], fun hn => ?_⟩
  rw [if_neg (by omega)]
  refine ⟨g, o + k, rfl, fun j l hj => ?_⟩
  obtain ⟨g', o', e, hc'⟩ := h.2 (by omega)
  injection e with e
  injection e with e1 e2
  subst e1 e2
  rw [List.getElem?_drop] at hj
  have := hc' _ l hj
  rw [← Nat.add_assoc] at this
  exact this

end Go.Proofs.YtpbjianhkjjgkaaDoor

namespace Go.Proofs.YtpbjianhkjjgkaaDoor
open Go.RowKit

/-- A row that may be written over: n cells at a block from lo on, below hi. -/
def Wr (w : World) (lo hi : Nat) (A : Option Addr) (n : Nat) : Prop :=
  0 < n → ∃ gx, A = some ⟨gx, 0, none⟩ ∧ lo ≤ gx ∧ gx < hi ∧ ∀ j, j < n → (∃ b : Int, w.cell? ⟨gx, j, none⟩ = some (.int .u8 b)) ∧ w.frozen? ⟨gx, j, none⟩ = false
theorem own_wr {w : World} {base : Nat} {e : TypeId} {A : Option Addr} {n c : Nat} {l : List UInt8} (h : Own w base e (.slice A n c) l) : Wr w base w.heap.size A n := by
  intro hn
  obtain ⟨A', c', hv, hs, _, _⟩ := h.forms
  injection hv with hA hln hc
  subst hA
  have hlt := h.lt
  rcases h.2 with ⟨hx, _⟩ | ⟨g', cap, cur, hx, hbb, hg, _, _, _, _⟩
  · injection hx with hA2 hn2 _
    omega
  · injection hx with hA2 _ _
    subst hA2
    refine ⟨g', rfl, hbb, (hlt g' rfl).2, fun j hj => ⟨?_, ?_⟩⟩
    · have := hs.cell rfl (k := j) (by omega)
      rw [Nat.zero_add] at this
      exact ⟨_, this⟩
    · simp [World.frozen?, hg]
theorem Wr.only {w w' : World} {S : Nat → Prop} {lo hi : Nat} {A : Option Addr} {n : Nat} (h : Wr w lo hi A n) (hw : Only w w' S) (hS : ∀ k, lo ≤ k → k < hi → ¬ S k) : Wr w' lo hi A n := by
  intro hn
  obtain ⟨gx, e, h1, h2, hj⟩ := h hn
  refine ⟨gx, e, h1, h2, fun j hl => ?_⟩
  obtain ⟨⟨b, hb⟩, hf⟩ := hj j hl
  exact ⟨⟨b, hw.cell hb (hS gx h1 h2)⟩, (hw.froz hb (hS gx h1 h2) ⟨gx, j, none⟩ rfl).trans hf⟩
theorem Wr.below {w w' : World} {lo hi : Nat} {A : Option Addr} {n : Nat} (h : Wr w lo hi A n) (hb : Below w.heap.size w w') : Wr w' lo hi A n := h.only (Only.of_below (S := fun _ => False) hb) fun _ _ _ => id
theorem Wr.set {w : World} {lo hi gx : Nat} {n j : Nat} (h : Wr w lo hi (some ⟨gx, 0, none⟩) n) (b : Int) : Wr (w.setCell ⟨gx, j, none⟩ (.int .u8 b)) lo hi (some ⟨gx, 0, none⟩) n := by
  intro hn
  obtain ⟨g', e, h1, h2, hj⟩ := h hn
  injection e with e
  injection e with e
  subst e
  refine ⟨gx, rfl, h1, h2, fun i hi => ?_⟩
  obtain ⟨⟨x, hx⟩, hf⟩ := hj i hi
  refine ⟨?_, by rw [World.frozen?_setCell]; exact hf⟩
  by_cases hij : j = i
  · subst hij
    exact ⟨b, World.cell?_setCell_same _ _ _ hx⟩
  · have hne : (⟨gx, j, none⟩ : Addr) ≠ ⟨gx, i, none⟩ := fun e => hij (by injection e)
    exact ⟨x, (World.cell?_setCell_other (h := hne) ..).trans hx⟩
theorem only_set (w : World) (g j : Nat) (v : Value) : Only w (w.setCell ⟨g, j, none⟩ v) (fun k => k = g) := (Only.refl w (fun k => k = g)).setCell ⟨g, j, none⟩ v fun _ => rfl

end Go.Proofs.YtpbjianhkjjgkaaDoor
