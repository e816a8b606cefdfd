/-
  Tables of the call's own that are written over: what stays so.
-/
import Derived.Test.YtcmagjeplofagaaWT10
namespace Go.Proofs.Ytcmagjeplofagaa
open Go.RowKit

theorem SegG.grown {α : Type} {Y : Lay α} {w w' : World} {g o n : Nat} {l : List α} {row : Option Nat} (h : SegG Y w (some ⟨g, o, none⟩) n l) (hg : w.grownBy w' row) (hne : some g ≠ row) : SegG Y w' (some ⟨g, o, none⟩) n l := by
  refine ⟨h.1, fun hn => ?_⟩
  obtain ⟨g', o', e, hc⟩ := h.2 hn
  injection e with e
  injection e with e1 e2
  subst e1 e2
  exact ⟨g, o, rfl, fun j u hu => hg.cell (a := ⟨g, o + j, none⟩) (hc j u hu) hne⟩
theorem grown_set (w : World) (p : Addr) (u : Value) : w.grownBy (w.setCell p u) (some p.block) :=
  ⟨rfl, rfl, rfl, by simp [World.setCell], fun k _ hne => Below.heap_setCell w p u k (fun e => hne (by rw [e]))⟩
theorem SegG.blockLt {α : Type} {Y : Lay α} {w : World} {g o n : Nat} {l : List α} (h : SegG Y w (some ⟨g, o, none⟩) n l) (hn : 0 < n) : g < w.heap.size := by
  obtain ⟨g', o', e, hc⟩ := h.at_ (k := 0) hn
  injection e with e
  injection e with e1 e2
  subst e1 e2
  have hz : (Y.cells (l[0]'(by rw [h.1]; exact hn)))[0]? = some ((Y.cells (l[0]'(by rw [h.1]; exact hn)))[0]'(by rw [Y.len]; exact Y.pos)) := List.getElem?_eq_getElem _
  exact World.block_lt_of_cell? w _ (hc 0 _ hz)

/-- A table's columns read as some, and lie in none of block b. -/
def ColW (W : World) (b : Option Nat) (s : TblS) : Prop := ∃ D, SegC W s.A s.n D ∧ s.n ≤ s.c ∧ s.c ≤ maxLen ∧ (s.n = 0 ∨ ∃ g o, s.A = some ⟨g, o, none⟩ ∧ some g ≠ b)
theorem ColW.grown {W W' : World} {b b' : Option Nat} {s : TblS} (h : ColW W b s) (hg : W.grownBy W' b) (hb : b' = b ∨ b' = some W.heap.size) : ColW W' b' s := by
  obtain ⟨D, h1, h2, h3, h4⟩ := h
  rcases h4 with h4 | ⟨g, o, e, hne⟩
  · refine ⟨D, ?_, h2, h3, .inl h4⟩
    rw [h4] at h1 ⊢
    exact ⟨h1.1, fun hn => absurd hn (by omega)⟩
  · by_cases hn : s.n = 0
    · refine ⟨D, ?_, h2, h3, .inl hn⟩
      rw [hn] at h1 ⊢
      exact ⟨h1.1, fun hn => absurd hn (by omega)⟩
    · have hlt : g < W.heap.size := by
        rw [e] at h1
        exact SegG.blockLt h1 (by omega)
      refine ⟨D, ?_, h2, h3, .inr ⟨g, o, e, ?_⟩⟩
      · rw [e] at h1 ⊢
        exact h1.grown hg hne
      · rcases hb with hb | hb
        · rw [hb]; exact hne
        · rw [hb]; intro e'; injection e' with e'; omega
theorem ColW.alloc {W : World} {b : Option Nat} {s : TblS} (h : ColW W b s) (o : Obj) : ColW (W.alloc o) b s := by
  obtain ⟨D, h1, h2⟩ := h
  exact ⟨D, SegG.alloc h1 o, h2⟩
theorem ColW.drew {W : World} {b : Option Nat} {s : TblS} (h : ColW W b s) : ColW W.drew b s := by
  obtain ⟨D, h1, h2⟩ := h
  exact ⟨D, SegG.drew h1, h2⟩

/-- Tables of the call's own whose columns read as some. -/
def XL (w2 W : World) (v : Value) (S : List TblS) : Prop := OwnG tblLay W w2.heap.size 30 v S ∧ (∀ s ∈ S, ColW W v.ownBlock s) ∧ Below w2.heap.size w2 W
theorem XL.segT {w2 W : World} {v : Value} {S : List TblS} (h : XL w2 W v S) : ∃ A c L, v = .slice A S.length c ∧ SegT W A S.length L ∧ S.length ≤ c ∧ c ≤ maxLen := by
  obtain ⟨h1, h2, h3⟩ := h
  obtain ⟨A, c, e, hs, hlc, hcm⟩ := h1.forms
  obtain ⟨F, hF⟩ : ∃ F : TblS → List Col, ∀ s ∈ S, SegC W s.A s.n (F s) ∧ s.n ≤ s.c ∧ s.c ≤ maxLen := by
    classical
    refine ⟨fun s => if hs : s ∈ S then Classical.choose (h2 s hs) else [], fun s hs => ?_⟩
    simp only [dif_pos hs]
    have := Classical.choose_spec (h2 s hs)
    exact ⟨this.1, this.2.1, this.2.2.1⟩
  refine ⟨A, c, S.map fun s => ⟨s.s, F s, s.k⟩, e, ⟨S, hs, by simp, fun i s t hs' ht => ?_⟩, hlc, hcm⟩
  have hm := List.mem_of_getElem? hs'
  rw [List.getElem?_map, hs'] at ht
  simp at ht
  subst ht
  exact ⟨rfl, rfl, hF s hm⟩
/-- One more table, whose columns read as some. -/
theorem XL.push {w2 X w3 : World} {v v' : Value} {S : List TblS} {s : TblS} (h : XL w2 X v S) (hs : ColW X v.ownBlock s) (ho : OwnG tblLay w3 w2.heap.size 30 v' (S ++ [s])) (hg : X.grownBy w3 v.ownBlock) (hat : v'.ownBlock = v.ownBlock ∨ v'.ownBlock = some X.heap.size) : XL w2 w3 v' (S ++ [s]) := by
  obtain ⟨h1, h2, h3⟩ := h
  refine ⟨ho, fun x hx => ?_, below_grownG h3 h1 hg (Nat.le_refl _) h3.size⟩
  rcases List.mem_append.1 hx with hx | hx
  · exact (h2 x hx).grown hg hat
  · simp at hx
    subst hx
    exact hs.grown hg hat
theorem XL.alloc {w2 W : World} {v : Value} {S : List TblS} (h : XL w2 W v S) (o : Obj) : XL w2 (W.alloc o) v S := ⟨h.1.alloc o, fun s hs => (h.2.1 s hs).alloc o, h.2.2.alloc h.2.2.size o⟩
theorem XL.drew {w2 W : World} {v : Value} {S : List TblS} (h : XL w2 W v S) : XL w2 W.drew v S := ⟨h.1.drew, fun s hs => (h.2.1 s hs).drew, h.2.2.drew⟩
/-- A field of one of them is written over. -/
theorem XL.set_ {w2 W : World} {gx N cx : Nat} {S : List TblS} (h : XL w2 W (.slice (some ⟨gx, 0, none⟩) N cx) S) (k : Nat) (hk : k < S.length) (j : Nat) (hj : j < 3) (x : TblS) (u : Value) (hx : tblLay.cells x = (tblLay.cells S[k]).set j u) (hc : ColW W (some gx) x) :
    XL w2 (W.setCell ⟨gx, k * 3 + j, none⟩ u) (.slice (some ⟨gx, 0, none⟩) N cx) (S.set k x) := by
  obtain ⟨h1, h2, h3⟩ := h
  obtain ⟨g, cap, e, hb, hl, _, _, _, _, hset⟩ := h1.set_ k hk j hj
  injection e with e1
  injection e1 with e1
  injection e1 with e1
  subst e1
  have hg := grown_set W ⟨gx, k * 3 + j, none⟩ u
  refine ⟨hset x u hx, fun s hs => ?_, h3.setCell hb _⟩
  rcases List.mem_or_eq_of_mem_set hs with hs | rfl
  · exact (h2 s hs).grown (b := some gx) hg (.inl rfl)
  · exact hc.grown (b := some gx) hg (.inl rfl)

/-- The same, with one table whose columns lie in a row of the call's own, and all others' in what was there before. -/
structure XK (w2 W : World) (gx cx N k gc m cc : Nat) (S : List TblS) (nm : ByteArray) (q : Int) (D : List Col) : Prop where
  hx : OwnG tblLay W w2.heap.size 30 (.slice (some ⟨gx, 0, none⟩) N cx) S
  hN : S.length = N
  hk : S[k]? = some ⟨nm, some ⟨gc, 0, none⟩, m, cc, q⟩
  hold : ∀ (j : Nat) (s : TblS), j ≠ k → S[j]? = some s → ∃ D, SegC w2 s.A s.n D ∧ s.n ≤ s.c ∧ s.c ≤ maxLen
  hc : OwnG colLay W w2.heap.size 33 (.slice (some ⟨gc, 0, none⟩) m cc) D
  hm : D.length = m
  hm1 : 1 ≤ m
  hne : gx ≠ gc
  bel : Below w2.heap.size w2 W
section
variable {w2 W : World} {gx cx N k gc m cc : Nat} {S : List TblS} {nm : ByteArray} {q : Int} {D : List Col}
theorem old_colW {s : TblS} {b : Nat} (hbel : Below w2.heap.size w2 W) (hb : w2.heap.size ≤ b) (h : ∃ D, SegC w2 s.A s.n D ∧ s.n ≤ s.c ∧ s.c ≤ maxLen) : ColW W (some b) s := by
  obtain ⟨D, h1, h2, h3⟩ := h
  by_cases hn : s.n = 0
  · exact ⟨D, SegG.below h1 hbel, h2, h3, .inl hn⟩
  · obtain ⟨g, o, e, _⟩ := h1.2 (by omega)
    refine ⟨D, SegG.below h1 hbel, h2, h3, .inr ⟨g, o, e, ?_⟩⟩
    rw [e] at h1
    have := SegG.blockLt h1 (by omega)
    intro e'
    injection e' with e'
    omega
theorem XK.gxB (h : XK w2 W gx cx N k gc m cc S nm q D) : w2.heap.size ≤ gx ∧ gx < W.heap.size := h.hx.lt gx rfl
theorem XK.gcB (h : XK w2 W gx cx N k gc m cc S nm q D) : w2.heap.size ≤ gc ∧ gc < W.heap.size := h.hc.lt gc rfl
theorem XK.own_colW (h : XK w2 W gx cx N k gc m cc S nm q D) (nm' : ByteArray) (q' : Int) : ColW W (some gx) ⟨nm', some ⟨gc, 0, none⟩, m, cc, q'⟩ := by
  obtain ⟨A, c, e, hs, hlc, hcm⟩ := h.hc.forms
  injection e with e1 e2 e3
  subst e1 e3
  have h1 := h.hm
  refine ⟨D, ?_, ?_, hcm, .inr ⟨gc, 0, rfl, ?_⟩⟩
  · show SegC W (some ⟨gc, 0, none⟩) m D
    rw [← h1]; exact hs
  · show m ≤ cc
    omega
  · intro e; injection e with e; exact h.hne e.symm
theorem XK.xl (h : XK w2 W gx cx N k gc m cc S nm q D) : XL w2 W (.slice (some ⟨gx, 0, none⟩) N cx) S := by
  refine ⟨h.hx, fun s hs => ?_, h.bel⟩
  obtain ⟨j, hj, rfl⟩ := List.getElem_of_mem hs
  by_cases e : j = k
  · subst e
    have := h.hk
    rw [List.getElem?_eq_getElem hj] at this
    injection this with this
    rw [this]
    exact h.own_colW _ _
  · exact old_colW h.bel h.gxB.1 (h.hold j _ e (List.getElem?_eq_getElem hj))
theorem XK.kN (h : XK w2 W gx cx N k gc m cc S nm q D) : k < N := by
  have := (List.getElem?_eq_some_iff.1 h.hk).1
  rw [h.hN] at this
  exact this
theorem XK.cells (h : XK w2 W gx cx N k gc m cc S nm q D) : W.cell? ⟨gx, k * 3, none⟩ = some (.string nm) ∧ W.cell? ⟨gx, k * 3 + 1, none⟩ = some (.slice (some ⟨gc, 0, none⟩) m cc) ∧ W.cell? ⟨gx, k * 3 + 2, none⟩ = some (.int .i64 q) ∧ (∀ j, W.frozen? ⟨gx, j, none⟩ = false) ∧ N ≤ cx ∧ cx ≤ maxLen := by
  obtain ⟨A, c, e, hs, hlc, hcm⟩ := h.hx.forms
  injection e with e1 e2 e3
  subst e1 e3
  obtain ⟨g, o, e, hc⟩ := hs.at_ (k := k) (by rw [h.hN]; exact h.kN)
  injection e with e
  injection e with e1 e2
  subst e1 e2
  have hS : S[k]'(by rw [h.hN]; exact h.kN) = ⟨nm, some ⟨gc, 0, none⟩, m, cc, q⟩ := (List.getElem?_eq_some_iff.1 h.hk).2
  rw [hS] at hc
  simp only [Nat.zero_add] at hc
  have hown : W.ownsRow w2.heap.size 30 3 (.slice (some ⟨gx, 0, none⟩) N cx) N (cellsG tblLay S) := by
    have := h.hx
    unfold OwnG at this
    rw [h.hN] at this
    exact this
  exact ⟨hc 0 _ rfl, hc 1 _ rfl, hc 2 _ rfl, fun j => hown.frozenAt j, by rw [← h.hN]; exact hlc, hcm⟩
theorem XK.ccell (h : XK w2 W gx cx N k gc m cc S nm q D) (i : Nat) (hi : i < m) : ∃ x : Col, D[i]? = some x ∧ W.cell? ⟨gc, i * 3, none⟩ = some (.string x.s) ∧ W.cell? ⟨gc, i * 3 + 1, none⟩ = some (.int .u8 x.k) ∧ W.cell? ⟨gc, i * 3 + 2, none⟩ = some (.bool x.b) ∧ (∀ j, W.frozen? ⟨gc, j, none⟩ = false) ∧ m ≤ cc ∧ cc ≤ maxLen := by
  obtain ⟨A, c, e, hs, hlc, hcm⟩ := h.hc.forms
  injection e with e1 e2 e3
  subst e1 e3
  have h1 := h.hm
  obtain ⟨g, o, e, c0, c1, c2⟩ := SegC.at_ hs (k := i) (by omega)
  injection e with e
  injection e with e1 e2
  subst e1 e2
  simp only [Nat.zero_add] at c0 c1 c2
  have hown : W.ownsRow w2.heap.size 33 3 (.slice (some ⟨gc, 0, none⟩) m cc) m (cellsG colLay D) := by
    have := h.hc
    unfold OwnG at this
    rw [h.hm] at this
    exact this
  exact ⟨_, List.getElem?_eq_getElem (by omega), c0, c1, c2, fun j => hown.frozenAt j, by omega, hcm⟩
/-- A column's field is written over. -/
theorem XK.setC (h : XK w2 W gx cx N k gc m cc S nm q D) (i : Nat) (hi : i < m) (j : Nat) (hj : j < 3) (x : Col) (u : Value) (hx : ∀ y, D[i]? = some y → colLay.cells x = (colLay.cells y).set j u) :
    XK w2 (W.setCell ⟨gc, i * 3 + j, none⟩ u) gx cx N k gc m cc S nm q (D.set i x) := by
  have h1 := h.hm
  obtain ⟨g, cap, e, hb, hl, _, _, _, _, hset⟩ := h.hc.set_ i (by omega) j hj
  injection e with e1
  injection e1 with e1
  injection e1 with e1
  subst e1
  exact ⟨h.hx.setFar (by simp [Value.ownBlock]; exact h.hne) _, h.hN, h.hk, h.hold, hset x u (hx _ (List.getElem?_eq_getElem (by omega))), by rw [List.length_set]; exact h.hm, h.hm1, h.hne, h.bel.setCell hb _⟩
theorem XK.drew (h : XK w2 W gx cx N k gc m cc S nm q D) : XK w2 W.drew gx cx N k gc m cc S nm q D := ⟨h.hx.drew, h.hN, h.hk, h.hold, h.hc.drew, h.hm, h.hm1, h.hne, h.bel.drew⟩
theorem XK.alloc (h : XK w2 W gx cx N k gc m cc S nm q D) (o : Obj) : XK w2 (W.alloc o) gx cx N k gc m cc S nm q D := ⟨h.hx.alloc o, h.hN, h.hk, h.hold, h.hc.alloc o, h.hm, h.hm1, h.hne, h.bel.alloc h.bel.size o⟩
theorem XK.below {W' : World} (h : XK w2 W gx cx N k gc m cc S nm q D) (hb : Below W.heap.size W W') : XK w2 W' gx cx N k gc m cc S nm q D := ⟨h.hx.below hb, h.hN, h.hk, h.hold, h.hc.below hb, h.hm, h.hm1, h.hne, Below.next' h.bel hb h.bel.size⟩
/-- A table's field is written over. -/
theorem XK.setT (h : XK w2 W gx cx N k gc m cc S nm q D) (j : Nat) (hj : j < 3) (x : TblS) (u : Value) (hx : tblLay.cells x = (tblLay.cells ⟨nm, some ⟨gc, 0, none⟩, m, cc, q⟩).set j u) (hc : ColW W (some gx) x) :
    XL w2 (W.setCell ⟨gx, k * 3 + j, none⟩ u) (.slice (some ⟨gx, 0, none⟩) N cx) (S.set k x) := by
  have hS : S[k]'(by rw [h.hN]; exact h.kN) = ⟨nm, some ⟨gc, 0, none⟩, m, cc, q⟩ := (List.getElem?_eq_some_iff.1 h.hk).2
  exact h.xl.set_ k (by rw [h.hN]; exact h.kN) j hj x u (by rw [hS]; exact hx) hc
end

theorem XK.make {w2 W : World} {gx cx N k gc m cc : Nat} {S : List TblS} {D : List Col} {A0 : Option Addr} {n0 c0 : Nat} {nm : ByteArray} {q : Int} (hx : OwnG tblLay W w2.heap.size 30 (.slice (some ⟨gx, 0, none⟩) N cx) S) (hN : S.length = N) (hk : S[k]? = some ⟨nm, A0, n0, c0, q⟩)
    (hold : ∀ (j : Nat) (s : TblS), j ≠ k → S[j]? = some s → ∃ D, SegC w2 s.A s.n D ∧ s.n ≤ s.c ∧ s.c ≤ maxLen) (hc : OwnG colLay W w2.heap.size 33 (.slice (some ⟨gc, 0, none⟩) m cc) D) (hm : D.length = m) (hm1 : 1 ≤ m) (hne : gx ≠ gc) (hbel : Below w2.heap.size w2 W) :
    XK w2 (W.setCell ⟨gx, k * 3 + 1, none⟩ (.slice (some ⟨gc, 0, none⟩) m cc)) gx cx N k gc m cc (S.set k ⟨nm, some ⟨gc, 0, none⟩, m, cc, q⟩) nm q D := by
  have hkS : k < S.length := (List.getElem?_eq_some_iff.1 hk).1
  have hS : S[k] = ⟨nm, A0, n0, c0, q⟩ := (List.getElem?_eq_some_iff.1 hk).2
  obtain ⟨g, cap, e, hb, hl, _, _, _, _, hset⟩ := hx.set_ k hkS 1 (by decide)
  injection e with e1
  injection e1 with e1
  injection e1 with e1
  subst e1
  refine ⟨hset _ _ (by rw [hS]; rfl), by rw [List.length_set]; exact hN, by rw [List.getElem?_set_self hkS], fun j s hj hs => ?_, hc.setFar (by simp [Value.ownBlock]; exact Ne.symm hne) _, hm, hm1, hne, hbel.setCell hb _⟩
  rw [List.getElem?_set_ne (Ne.symm hj)] at hs
  exact hold j s hj hs
theorem XK.frozenX {w2 W : World} {N cx gx : Nat} {S : List TblS} (hx : OwnG tblLay W w2.heap.size 30 (.slice (some ⟨gx, 0, none⟩) N cx) S) (hN : S.length = N) (j : Nat) : W.frozen? ⟨gx, j, none⟩ = false := by
  have hown : W.ownsRow w2.heap.size 30 3 (.slice (some ⟨gx, 0, none⟩) N cx) N (cellsG tblLay S) := by
    unfold OwnG at hx
    rw [hN] at hx
    exact hx
  exact hown.frozenAt j
theorem tcells {w2 W : World} {N cx gx : Nat} {S : List TblS} (hx : OwnG tblLay W w2.heap.size 30 (.slice (some ⟨gx, 0, none⟩) N cx) S) (_ : S.length = N) {k : Nat} {s : TblS} (hk : S[k]? = some s) :
    W.cell? ⟨gx, k * 3, none⟩ = some (.string s.s) ∧ W.cell? ⟨gx, k * 3 + 1, none⟩ = some (.slice s.A s.n s.c) ∧ W.cell? ⟨gx, k * 3 + 2, none⟩ = some (.int .i64 s.k) := by
  obtain ⟨A, c, e, hs, hlc, hcm⟩ := hx.forms
  injection e with e1 e2 e3
  subst e1 e3
  obtain ⟨hkS, hS⟩ := List.getElem?_eq_some_iff.1 hk
  obtain ⟨g, o, e, hc⟩ := hs.at_ hkS
  injection e with e
  injection e with e1 e2
  subst e1 e2
  rw [hS] at hc
  simp only [Nat.zero_add] at hc
  exact ⟨hc 0 _ rfl, hc 1 _ rfl, hc 2 _ rfl⟩
/-- A row of the call's own that is not empty lies at some block's head. -/
theorem OwnG.head {α : Type} {Y : Lay α} {w : World} {base : Nat} {e : TypeId} {v : Value} {l : List α} (h : OwnG Y w base e v l) (hl : 0 < l.length) : ∃ g c, v = .slice (some ⟨g, 0, none⟩) l.length c ∧ l.length ≤ c ∧ c ≤ maxLen ∧ v.ownBlock = some g := by
  obtain ⟨g, cap, e, _, _, _, _, h1, h2, _⟩ := h.set_ 0 hl 0 Y.pos
  exact ⟨g, cap, e, h1, h2, by rw [e]; rfl⟩

/-- One more column, and the table told of it. -/
theorem XK.grow {w2 X w3 : World} {gx cx N k gc m cc : Nat} {S : List TblS} {nm : ByteArray} {q : Int} {D : List Col} {v' : Value} {x : Col} (h : XK w2 X gx cx N k gc m cc S nm q D)
    (ho : OwnG colLay w3 w2.heap.size 33 v' (D ++ [x])) (hg : X.grownBy w3 (some gc)) (hat : v'.ownBlock = some gc ∨ v'.ownBlock = some X.heap.size) :
    ∃ gc' cc', v' = .slice (some ⟨gc', 0, none⟩) (m + 1) cc' ∧ w3.cell? ⟨gx, k * 3 + 1, none⟩ = some (.slice (some ⟨gc, 0, none⟩) m cc) ∧ (∀ j, w3.frozen? ⟨gx, j, none⟩ = false) ∧
      XK w2 (w3.setCell ⟨gx, k * 3 + 1, none⟩ (.slice (some ⟨gc', 0, none⟩) (m + 1) cc')) gx cx N k gc' (m + 1) cc' (S.set k ⟨nm, some ⟨gc', 0, none⟩, m + 1, cc', q⟩) nm q (D ++ [x]) := by
  have hDl : (D ++ [x]).length = m + 1 := by rw [List.length_append, h.hm]; rfl
  obtain ⟨gc', cc', e, _, _, hown⟩ := ho.head (by omega)
  rw [hDl] at e
  have hne : some gx ≠ some gc := fun e' => by injection e' with e'; exact h.hne e'
  have hne' : gx ≠ gc' := fun e' => by
    have hgx := h.gxB.2
    rcases hat with h' | h'
    · rw [hown] at h'; injection h' with h'; exact h.hne (by omega)
    · rw [hown] at h'; injection h' with h'; omega
  have hx3 : OwnG tblLay w3 w2.heap.size 30 (.slice (some ⟨gx, 0, none⟩) N cx) S := h.hx.kept hg (.inr hne)
  have hb3 : Below w2.heap.size w2 w3 := below_grownG h.bel h.hc hg (Nat.le_refl _) h.bel.size
  rw [e] at ho
  exact ⟨gc', cc', e, hg.cell (a := ⟨gx, k * 3 + 1, none⟩) h.cells.2.1 hne, fun j => XK.frozenX hx3 h.hN j, XK.make hx3 h.hN h.hk h.hold ho hDl (by omega) hne' hb3⟩

/-- What lies at the head of tables of the call's own. -/
theorem XL.first {w2 W : World} {v : Value} {S : List TblS} (h : XL w2 W v S) (hl : 1 ≤ S.length) : ∃ g c s, v = .slice (some ⟨g, 0, none⟩) S.length c ∧ S.length ≤ c ∧ c ≤ maxLen ∧ S[0]? = some s ∧ W.cell? ⟨g, 1, none⟩ = some (.slice s.A s.n s.c) := by
  obtain ⟨g, c, e, h1, h2, _⟩ := h.1.head (by omega)
  have hx := h.1
  rw [e] at hx
  have hs : S[0]? = some (S[0]'(by omega)) := List.getElem?_eq_getElem _
  obtain ⟨_, t1, _⟩ := tcells hx rfl hs
  exact ⟨g, c, _, e, h1, h2, hs, t1⟩

def zedN (k : Nat) : ByteArray := ⟨#[122, UInt8.ofNat k]⟩
theorem run_zn (W : World) (k : Nat) (hk : k < 100) :
    (convert 31 9 (.slice (some ⟨W.heap.size, 0, none⟩) 2 2)).run Try.prog (W.alloc (.cells #[.int .u8 122, .int .u8 (k : Int)] 5)).drew = .ok (.string (zedN k)) (W.alloc (.cells #[.int .u8 122, .int .u8 (k : Int)] 5)).drew := by
  rw [run_string_seg (P := Try.prog) _ 31 9 5 bt Try.underlying9 _ 2 2 [122, UInt8.ofNat k] ((Seg.newAt W _ 5 _ _ 2 rfl (by simp [cellsB]; omega) rfl).drew)]
  rfl
def sliceN : Value → Nat
  | .slice _ n _ => n
  | _ => 0
def colsN (w : World) (p : Addr) : Nat := match w.cell? p with
  | some v => sliceN v
  | none => 0

end Go.Proofs.Ytcmagjeplofagaa
