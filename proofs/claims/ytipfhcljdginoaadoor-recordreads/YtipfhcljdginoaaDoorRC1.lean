/-
  The document's Decode, told by the pure reader.
-/
import Derived.Test.YtipfhcljdginoaaDoorRA6
namespace Go.Proofs.YtipfhcljdginoaaDoor
open Go.RowKit

section
variable {l : List UInt8} {k k1 k2 k3 k4 m v a b p x : Nat} {s key : ByteArray} {D : List Wr6} {r : List UInt8}
theorem rn_ok (h : ¬ l.length - k < m) (h2 : ¬ (v < a ∨ b < v)) (hv : rdN ((l.drop k).take m) = v) : rnum l k m a b = .ok v (k + m) := by unfold rnum; rw [hv, if_neg h, if_neg h2]
theorem rwr_k (h : rkey l k s = .bad p x) : rwr l k s = .bad p x := by unfold rwr; rw [h]
theorem rk1 (h : l.length - k < 2) : rkey l k s = .bad k 3 := by unfold rkey rnum; rw [if_pos h]
theorem rk2 (h : ¬ l.length - k < 2) (hv : rdN ((l.drop k).take 2) = v) (h2 : v < 1 ∨ 4000 < v) : rkey l k s = .bad k 2 := by unfold rkey rnum; rw [hv, if_neg h, if_pos h2]
theorem rk3 (hn : rnum l k 2 1 4000 = .ok m k1) (h3 : l.length - k1 < m) : rkey l k s = .bad k1 3 := by unfold rkey; rw [hn]; dsimp only; unfold rtake; rw [if_pos h3]
theorem rk4 (hn : rnum l k 2 1 4000 = .ok m k1) (h3 : ¬ l.length - k1 < m) (hk : (⟨((l.drop k1).take m).toArray⟩ : ByteArray) = key) (h4 : sle key s = true) : rkey l k s = .bad k1 2 := by unfold rkey; rw [hn]; dsimp only; unfold rtake; rw [if_neg h3]; dsimp only; rw [hk, if_pos h4]
theorem rk5 (hn : rnum l k 2 1 4000 = .ok m k1) (h3 : ¬ l.length - k1 < m) (hk : (⟨((l.drop k1).take m).toArray⟩ : ByteArray) = key) (h4 : ¬ sle key s = true) : rkey l k s = .ok key (k1 + m) := by unfold rkey; rw [hn]; dsimp only; unfold rtake; rw [if_neg h3]; dsimp only; rw [hk, if_neg h4]
theorem rw5 (hk : rkey l k s = .ok key k2) (h : l.length - k2 < 1) : rwr l k s = .bad k2 3 := by unfold rwr; rw [hk]; dsimp only; unfold rnum; rw [if_pos h]
theorem rw6 (hk : rkey l k s = .ok key k2) (h : ¬ l.length - k2 < 1) (hg : rdN ((l.drop k2).take 1) = v) (h6 : 1 < v) : rwr l k s = .bad k2 2 := by unfold rwr; rw [hk]; dsimp only; unfold rnum; rw [hg, if_neg h, if_pos (Or.inr h6)]
theorem rw7 (hk : rkey l k s = .ok key k2) (hn : rnum l k2 1 0 1 = .ok 1 k3) : rwr l k s = .ok ⟨key, [], true⟩ k3 := by unfold rwr; rw [hk]; dsimp only; rw [hn]; dsimp only; rw [if_pos rfl]
theorem rw8 (hk : rkey l k s = .ok key k2) (hn : rnum l k2 1 0 1 = .ok 0 k3) (h : rrow l k3 = .bad p x) : rwr l k s = .bad p x := by unfold rwr; rw [hk]; dsimp only; rw [hn]; dsimp only; rw [if_neg (by omega), h]
theorem rw9 (hk : rkey l k s = .ok key k2) (hn : rnum l k2 1 0 1 = .ok 0 k3) (h : rrow l k3 = .ok r k4) : rwr l k s = .ok ⟨key, r, false⟩ k4 := by unfold rwr; rw [hk]; dsimp only; rw [hn]; dsimp only; rw [if_neg (by omega), h]
theorem rr1 (h : l.length - k < 2) : rrow l k = .bad k 3 := by unfold rrow rnum; rw [if_pos h]
theorem rr2 (h : ¬ l.length - k < 2) (hv : rdN ((l.drop k).take 2) = v) (h2 : 4000 < v) : rrow l k = .bad k 2 := by unfold rrow rnum; rw [hv, if_neg h, if_pos (Or.inr h2)]
theorem rr3 (hn : rnum l k 2 0 4000 = .ok m k4) (h : l.length - k4 < m) : rrow l k = .bad k4 3 := by unfold rrow; rw [hn]; dsimp only; unfold rtake; rw [if_pos h]
theorem rr4 (hn : rnum l k 2 0 4000 = .ok m k4) (h : ¬ l.length - k4 < m) : rrow l k = .ok ((l.drop k4).take m) (k4 + m) := by unfold rrow; rw [hn]; dsimp only; unfold rtake; rw [if_neg h]
theorem dec1 (h : l.length < 8) : decP l = (0, [], 0, 3) := by unfold decP rbatch rnum; rw [if_pos (by omega)]; rfl
theorem dec2 (h : ¬ l.length < 8) (hv : rdN (l.take 8) = v) (h2 : v < 1 ∨ 9223372036854775807 < v) : decP l = (0, [], 0, 2) := by unfold decP rbatch rnum; rw [List.drop_zero, hv, if_neg (by omega), if_pos h2]; rfl
theorem dec3 (hn : rnum l 0 8 1 9223372036854775807 = .ok v 8) (h : l.length < 10) : decP l = (0, [], 8, 3) := by unfold decP rbatch; rw [hn]; dsimp only; unfold rwrites rnum; rw [if_pos (by omega)]; rfl
theorem dec4 (hn : rnum l 0 8 1 9223372036854775807 = .ok v 8) (h : ¬ l.length < 10) (hm : rdN ((l.drop 8).take 2) = m) (h2 : m < 1 ∨ 64 < m) : decP l = (0, [], 8, 2) := by unfold decP rbatch; rw [hn]; dsimp only; unfold rwrites rnum; rw [hm, if_neg (by omega), if_pos h2]; rfl
theorem dec5 (hn : rnum l 0 8 1 9223372036854775807 = .ok v 8) (hm : rnum l 8 2 1 64 = .ok m 10) (h : rws l 10 ⟨#[]⟩ m = .bad p x) : decP l = (0, [], p, if x = 3 then 3 else 2) := by unfold decP rbatch; rw [hn]; dsimp only; unfold rwrites; rw [hm]; dsimp only; rw [h]
theorem dec6 (hn : rnum l 0 8 1 9223372036854775807 = .ok v 8) (hm : rnum l 8 2 1 64 = .ok m 10) (h : rws l 10 ⟨#[]⟩ m = .ok D k) (hk : k < l.length) : decP l = (0, [], k, 2) := by unfold decP rbatch; rw [hn]; dsimp only; unfold rwrites; rw [hm]; dsimp only; rw [h]; dsimp only; rw [if_pos hk]; rfl
theorem dec7 (hn : rnum l 0 8 1 9223372036854775807 = .ok v 8) (hm : rnum l 8 2 1 64 = .ok m 10) (h : rws l 10 ⟨#[]⟩ m = .ok D k) (hk : ¬ k < l.length) : decP l = (v, D, 0, 0) := by unfold decP rbatch; rw [hn]; dsimp only; unfold rwrites; rw [hm]; dsimp only; rw [h]; dsimp only; rw [if_neg hk]
end
/-- What was read of the writes, and what is still to be read. -/
def DecI (l : List UInt8) (N : Nat) (D : List Wr6) (k : Nat) (last : ByteArray) (j : Nat) : Prop := Rr.pre D (rws l k last (N - j)) = rws l 10 ⟨#[]⟩ N
theorem DecI.start (l : List UInt8) (N : Nat) : DecI l N [] 10 ⟨#[]⟩ 0 := by
  unfold DecI
  rw [Nat.sub_zero]
  rcases rws l 10 ⟨#[]⟩ N with ⟨p, y⟩ | ⟨xs, k2⟩ <;> rfl
theorem DecI.bad {l : List UInt8} {N : Nat} {D : List Wr6} {k : Nat} {last : ByteArray} {j p x : Nat} (h : DecI l N D k last j) (hj : j < N) (hw : rwr l k last = .bad p x) : rws l 10 ⟨#[]⟩ N = .bad p x := by
  unfold DecI at h
  rw [show N - j = (N - j - 1) + 1 by omega, rws_bad hw] at h
  exact h.symm
theorem DecI.ok {l : List UInt8} {N : Nat} {D : List Wr6} {k : Nat} {last : ByteArray} {j k2 : Nat} {x : Wr6} (h : DecI l N D k last j) (hj : j < N) (hw : rwr l k last = .ok x k2) : DecI l N (D ++ [x]) k2 x.key (j + 1) := by
  unfold DecI at h ⊢
  rw [show N - j = (N - (j + 1)) + 1 by omega, rws_pre hw] at h
  exact h
theorem DecI.fin {l : List UInt8} {N : Nat} {D : List Wr6} {k : Nat} {last : ByteArray} (h : DecI l N D k last N) : rws l 10 ⟨#[]⟩ N = .ok D k := by
  unfold DecI at h
  rw [Nat.sub_self] at h
  rw [← h]
  simp [rws, Rr.pre]
theorem bx1 (W : World) (g : Nat) (hg : W.heap.size = g) : (W.alloc (.cells #[.int .i64 0, .slice none 0 0] 26)).cell? ⟨g, 0, none⟩ = some (.int .i64 0) ∧ (W.alloc (.cells #[.int .i64 0, .slice none 0 0] 26)).cell? ⟨g, 1, none⟩ = some (.slice none 0 0) ∧ (∀ j, (W.alloc (.cells #[.int .i64 0, .slice none 0 0] 26)).frozen? ⟨g, j, none⟩ = false) ∧ (W.alloc (.cells #[.int .i64 0, .slice none 0 0] 26)).heap.size = g + 1 := by
  subst hg
  exact ⟨by simp, by simp, fun j => by simp, by simp⟩
theorem bxa (W : World) (g : Nat) (o : Obj) {a b : Value} (h : W.cell? ⟨g, 0, none⟩ = some a ∧ W.cell? ⟨g, 1, none⟩ = some b ∧ (∀ j, W.frozen? ⟨g, j, none⟩ = false)) : (W.alloc o).cell? ⟨g, 0, none⟩ = some a ∧ (W.alloc o).cell? ⟨g, 1, none⟩ = some b ∧ (∀ j, (W.alloc o).frozen? ⟨g, j, none⟩ = false) :=
  have hb : Below W.heap.size W (W.alloc o) := (Below.refl _ _).alloc (Nat.le_refl _) _
  ⟨cell_alloc o h.1, cell_alloc o h.2.1, fun j => ((bcell hb).2 g j (World.block_lt_of_cell? W _ h.1)).trans (h.2.2 j)⟩
theorem dboxes (w wa : World) (h : wa = ((w.alloc (.cells #[.int .i64 0, .slice none 0 0] 26)).alloc (.cells #[.int .i64 0, .slice none 0 0] 26)).alloc (.cells #[.int .i64 0, .slice none 0 0] 26)) (b0 : Nat) (hb : w.heap.size = b0) :
    (wa.cell? ⟨b0, 0, none⟩ = some (.int .i64 0) ∧ wa.cell? ⟨b0, 1, none⟩ = some (.slice none 0 0) ∧ ∀ j, wa.frozen? ⟨b0, j, none⟩ = false) ∧
    (wa.cell? ⟨b0 + 1, 0, none⟩ = some (.int .i64 0) ∧ wa.cell? ⟨b0 + 1, 1, none⟩ = some (.slice none 0 0)) ∧
    (wa.cell? ⟨b0 + 1 + 1, 0, none⟩ = some (.int .i64 0) ∧ wa.cell? ⟨b0 + 1 + 1, 1, none⟩ = some (.slice none 0 0) ∧ ∀ j, wa.frozen? ⟨b0 + 1 + 1, j, none⟩ = false) ∧ wa.heap.size = b0 + 3 ∧ Below w.heap.size w wa := by
  obtain ⟨p0, p1, pf, pz⟩ := bx1 w b0 hb
  obtain ⟨q0, q1, qf, qz⟩ := bx1 _ _ pz
  obtain ⟨r0, r1, rf, rz⟩ := bx1 _ _ qz
  have a1 := bxa _ _ (.cells #[.int .i64 0, .slice none 0 0] 26) (bxa _ _ (.cells #[.int .i64 0, .slice none 0 0] 26) ⟨p0, p1, pf⟩)
  have a2 := bxa _ _ (.cells #[.int .i64 0, .slice none 0 0] 26) ⟨q0, q1, qf⟩
  rw [h]
  exact ⟨a1, ⟨a2.1, a2.2.1⟩, ⟨r0, r1, rf⟩, rz, (((Below.refl w.heap.size w).alloc (Nat.le_refl _) _).alloc (by simp) _).alloc (by simp; omega) _⟩
/-- The three boxes of the document's Decode, and the bytes. -/
structure Ds (w0 w : World) (b0 : Nat) (A : Option Addr) (n : Nat) (l : List UInt8) (X : Int) (v : Value) : Prop where
  r0 : w.cell? ⟨b0, 0, none⟩ = some (.int .i64 0)
  r1 : w.cell? ⟨b0, 1, none⟩ = some (.slice none 0 0)
  rf : ∀ j, w.frozen? ⟨b0, j, none⟩ = false
  n0 : w.cell? ⟨b0 + 1, 0, none⟩ = some (.int .i64 0)
  n1 : w.cell? ⟨b0 + 1, 1, none⟩ = some (.slice none 0 0)
  x0 : w.cell? ⟨b0 + 1 + 1, 0, none⟩ = some (.int .i64 X)
  x1 : w.cell? ⟨b0 + 1 + 1, 1, none⟩ = some v
  xf : ∀ j, w.frozen? ⟨b0 + 1 + 1, j, none⟩ = false
  sg : Seg w A n l
  be : Below w0.heap.size w0 w
  hb : w0.heap.size = b0
  hA : 0 < n → ∀ a, A = some a → a.block < b0
theorem Ds.lt {w0 w : World} {b0 : Nat} {A : Option Addr} {n : Nat} {l : List UInt8} {X : Int} {v : Value} (h : Ds w0 w b0 A n l X v) : b0 + 1 + 1 < w.heap.size := World.block_lt_of_cell? w _ h.x0
theorem Ds.only {w0 w w' : World} {b0 : Nat} {A : Option Addr} {n : Nat} {l : List UInt8} {X : Int} {v : Value} {K : Nat → Prop} (h : Ds w0 w b0 A n l X v) (ho : Only w w' K) (hK : ∀ k, K k → b0 + 3 ≤ k) : Ds w0 w' b0 A n l X v :=
  have q : ∀ k, k < b0 + 3 → ¬ K k := fun k h1 h2 => by have := hK k h2; omega
  ⟨ho.cell h.r0 (q _ (by simp)), ho.cell h.r1 (q _ (by simp)), fun j => (ho.froz h.r0 (q _ (by simp)) ⟨b0, j, none⟩ rfl).trans (h.rf j), ho.cell h.n0 (q _ (by simp)), ho.cell h.n1 (q _ (by simp)),
    ho.cell h.x0 (q _ (by simp)), ho.cell h.x1 (q _ (by simp)), fun j => (ho.froz h.x0 (q _ (by simp)) ⟨b0 + 1 + 1, j, none⟩ rfl).trans (h.xf j), h.sg.only ho (fun hn a ha => q _ (by have := h.hA hn a ha; omega)),
    ho.below h.be (fun k hk => by have := hK k hk; have := h.hb; omega) h.be.size, h.hb, h.hA⟩
theorem Ds.below {w0 w w' : World} {b0 : Nat} {A : Option Addr} {n : Nat} {l : List UInt8} {X : Int} {v : Value} (h : Ds w0 w b0 A n l X v) (hb : Below w.heap.size w w') : Ds w0 w' b0 A n l X v :=
  h.only (Only.of_below (S := fun _ => False) hb) fun _ h => h.elim
theorem Ds.only2 {w0 w w' : World} {b0 : Nat} {A : Option Addr} {n : Nat} {l : List UInt8} {X Y : Int} {v u : Value} (h : Ds w0 w b0 A n l X v) (ho : Only w w' (fun k => k = b0 + 1 + 1))
    (x0 : w'.cell? ⟨b0 + 1 + 1, 0, none⟩ = some (.int .i64 Y)) (x1 : w'.cell? ⟨b0 + 1 + 1, 1, none⟩ = some u) (xf : ∀ j, w'.frozen? ⟨b0 + 1 + 1, j, none⟩ = false) : Ds w0 w' b0 A n l Y u :=
  have q : ∀ k, k < b0 + 2 → ¬ (k = b0 + 1 + 1) := fun k h1 h2 => by omega
  ⟨ho.cell h.r0 (q _ (by simp)), ho.cell h.r1 (q _ (by simp)), fun j => (ho.froz h.r0 (q _ (by simp)) ⟨b0, j, none⟩ rfl).trans (h.rf j), ho.cell h.n0 (q _ (by simp)), ho.cell h.n1 (q _ (by simp)),
    x0, x1, xf, h.sg.only ho (fun hn a ha => q _ (by have := h.hA hn a ha; omega)),
    ho.below h.be (fun k hk => by have hk : k = b0 + 1 + 1 := hk; have := h.hb; omega) h.be.size, h.hb, h.hA⟩
theorem Ds.set0 {w0 w : World} {b0 : Nat} {A : Option Addr} {n : Nat} {l : List UInt8} {X : Int} {v : Value} (h : Ds w0 w b0 A n l X v) (Y : Int) : Ds w0 (w.setCell ⟨b0 + 1 + 1, 0, none⟩ (.int .i64 Y)) b0 A n l Y v :=
  have n1 : (⟨b0 + 1 + 1, 0, none⟩ : Addr) ≠ ⟨b0 + 1 + 1, 1, none⟩ := by simp
  h.only2 ((Only.refl w (fun k => k = b0 + 1 + 1)).setCell ⟨b0 + 1 + 1, 0, none⟩ _ fun _ => rfl) (World.cell?_setCell_same _ _ _ h.x0) ((World.cell?_setCell_other (h := n1) ..).trans h.x1) fun j => by rw [World.frozen?_setCell]; exact h.xf j
theorem Ds.set1 {w0 w : World} {b0 : Nat} {A : Option Addr} {n : Nat} {l : List UInt8} {X : Int} {v : Value} (h : Ds w0 w b0 A n l X v) (u : Value) : Ds w0 (w.setCell ⟨b0 + 1 + 1, 1, none⟩ u) b0 A n l X u :=
  have n1 : (⟨b0 + 1 + 1, 1, none⟩ : Addr) ≠ ⟨b0 + 1 + 1, 0, none⟩ := by simp
  h.only2 ((Only.refl w (fun k => k = b0 + 1 + 1)).setCell ⟨b0 + 1 + 1, 1, none⟩ _ fun _ => rfl) ((World.cell?_setCell_other (h := n1) ..).trans h.x0) (World.cell?_setCell_same _ _ _ h.x1) fun j => by rw [World.frozen?_setCell]; exact h.xf j
theorem Seg.cutB {w : World} {g o n : Nat} {l : List UInt8} (h : Seg w (some ⟨g, o, none⟩) n l) (k m : Nat) (hm : k + m ≤ n) : Seg w (some ⟨g, o + k, none⟩) m ((l.drop k).take m) := by
  have := h.cut k (k + m) (by omega) hm
  rw [show k + m - k = m by omega] at this
  have e : (⟨g, o, none⟩ : Addr).add k = ⟨g, o + k, none⟩ := by
    unfold Addr.add
    split
    · subst k; rfl
    · rfl
  simpa [e] using this
theorem Own.blk {w : World} {base : Nat} {e : TypeId} {A : Option Addr} {m c : Nat} {l : List UInt8} (h : Own w base e (.slice A m c) l) : ∀ a, A = some a → base ≤ a.block := by
  intro a ha
  subst ha
  rcases h.2 with ⟨hv, _⟩ | ⟨g, cap, cur, hv, hb, _⟩
  · cases hv
  · injection hv with h1
    injection h1 with h1
    subst h1
    exact hb
theorem rdN_one (l : List UInt8) (k : Nat) (h : k < l.length) : rdN ((l.drop k).take 1) = (l[k]).toNat := by
  have e : (l.drop k).take 1 = [l[k]] := by rw [List.drop_eq_getElem_cons h]; rfl
  rw [e]
  simp [rdN]

set_option maxRecDepth 8000 in
set_option maxHeartbeats 80000000 in
theorem rdecode_any (A : Option Addr) (n c : Nat) (l : List UInt8) (w : World) (ha : Seg w A n l) (hnc : n ≤ c) (hcm : c ≤ maxLen) (hn : n ≤ 1000000) :
    Calls Tryd.prog 30 #[.slice A n c] w fun e w' => ∃ v, e = .returned (.tuple #[.agg #[.int .i64 ((decP l).1 : Int), v], .int .i64 ((decP l).2.2.1 : Int), .int .i64 ((decP l).2.2.2 : Int)]) ∧ OwnW w' w.heap.size v (decP l).2.1 ∧ Below w.heap.size w w' := by
  obtain ⟨Z, hZ⟩ : ∃ Z, decP l = Z := ⟨_, rfl⟩
  have HZ := Lib.hid hZ
  rw [hZ]
  clear hZ
  have HLN := Lib.hid ha.1
  simp only [maxLen] at hcm
  obtain ⟨wa, hwa⟩ : ∃ wa, wa = ((w.alloc (.cells #[.int .i64 0, .slice none 0 0] 26)).alloc (.cells #[.int .i64 0, .slice none 0 0] 26)).alloc (.cells #[.int .i64 0, .slice none 0 0] 26) := ⟨_, rfl⟩
  obtain ⟨b0, hb0⟩ : ∃ b0, w.heap.size = b0 := ⟨_, rfl⟩
  obtain ⟨⟨r0, r1, rf⟩, ⟨n0, n1⟩, ⟨x0, x1, xf⟩, hza, hba⟩ := dboxes w wa hwa b0 hb0
  have hda : Ds w wa b0 A n l 0 (.slice none 0 0) := ⟨r0, r1, rf, n0, n1, x0, x1, xf, ha.below hba, hba, hb0, fun h a e => by have := ha.lt h a e; omega⟩
  have HWA := Lib.hid hwa
  have HB0 := Lib.hid hb0
  clear hwa hb0 ha hza r0 r1 rf n0 n1 x0 x1 xf hba
  by_cases h8 : n < 8
  · have d8 : decide ((n : Int) < 8) = true := decide_eq_true (by omega)
    go_enter Tryd.func30, Tryd.ntmps30
    go_upto_region 2 with fail
    rw [← HWA.out, HB0.out]
    clear HWA
    obtain rfl : Z = (0, [], 0, 3) := by rw [← HZ.out]; exact dec1 (by rw [HLN.out]; exact h8)
    have r0 := hda.r0
    have r1 := hda.r1
    have n0 := hda.n0
    have n1 := hda.n1
    have f0 := hda.rf 0
    have f1 := hda.rf 1
    obtain ⟨y0, y1, hset⟩ := twoset r0 r1 (.int .i64 0) (.slice none 0 0)
    have hfin := hset.below hda.be (fun k e => by have e : k = b0 := e; have := HB0.out; omega) hda.be.size
    go_wp2
    refine bodyPost_ret (v := .tuple #[.agg #[.int .i64 0, .slice none 0 0], .int .i64 ((0 : Nat) : Int), .int .i64 3]) (by simp [results, Tryd.results30, go_sem, y0, y1]) rfl ⟨_, rfl, OwnW.nil _ _, hfin⟩
  · have d8 : decide ((n : Int) < 8) = false := decide_eq_false (by omega)
    obtain ⟨gA, oA, rfl, _⟩ := hda.sg.2 (by omega)
    obtain ⟨V, hV⟩ : ∃ V, rdN (l.take 8) = V := ⟨_, rfl⟩
    have HV := Lib.hid hV
    have hVlt : V < 256 ^ 8 := by rw [← hV]; exact rdN_lt' _ 8 (by rw [List.length_take]; omega)
    have hrd := read_any _ 8 c (l.take 8) wa (hda.sg.upto 8 (by omega)) (by omega)
    rw [hV] at hrd
    have HRD := Lib.hid hrd
    obtain ⟨X, hX⟩ : ∃ X, IntKind.i64.wrap (V : Int) = X := ⟨_, rfl⟩
    have c8 : (8 : Int) ≤ (c : Int) := by omega
    obtain ⟨wb, hwb⟩ : ∃ wb, wa.setCell ⟨b0 + 1 + 1, 0, none⟩ (.int .i64 X) = wb := ⟨_, rfl⟩
    have hdb := hda.set0 X
    rw [hwb] at hdb
    have xa0 := hda.x0
    have xaf := hda.xf 0
    have HWB := Lib.hid hwb
    clear hV hrd hwb
    by_cases hv : V < 1 ∨ 9223372036854775807 < V
    · have dX : decide (X < 1) = true := by
        rw [← hX]
        refine decide_eq_true ?_
        rw [IntKind.wrap_i64]
        omega
      clear hVlt
      go_enter Tryd.func30, Tryd.ntmps30
      go_upto_region 2 with fail
      rw [← HWA.out, HB0.out]
      clear HWA
      go_wp2_with fail
      refine HRD.out.mono ?_
      rintro e w1 ⟨rfl, rfl⟩
      go_upto_region 5 with fail
      rw [HWB.out]
      have x0 := hdb.x0
      clear HWB xa0 xaf hX
      obtain rfl : Z = (0, [], 0, 2) := by rw [← HZ.out]; exact dec2 (by rw [HLN.out]; exact h8) HV.out hv
      have r0 := hdb.r0
      have r1 := hdb.r1
      have n0 := hdb.n0
      have n1 := hdb.n1
      have f0 := hdb.rf 0
      have f1 := hdb.rf 1
      obtain ⟨y0, y1, hset⟩ := twoset r0 r1 (.int .i64 0) (.slice none 0 0)
      have hfin := hset.below hdb.be (fun k e => by have e : k = b0 := e; have := HB0.out; omega) hdb.be.size
      go_wp2
      refine bodyPost_ret (v := .tuple #[.agg #[.int .i64 0, .slice none 0 0], .int .i64 ((0 : Nat) : Int), .int .i64 2]) (by simp [results, Tryd.results30, go_sem, y0, y1]) rfl ⟨_, rfl, OwnW.nil _ _, hfin⟩
    · obtain rfl : X = (V : Int) := by rw [← hX]; exact IntWalk.i64_in _ (by omega)
      have dX : decide ((V : Int) < 1) = false := decide_eq_false (by omega)
      have hnum : rnum l 0 8 1 9223372036854775807 = .ok V 8 := rn_ok (by rw [HLN.out]; omega) (by omega) (by rw [List.drop_zero]; exact HV.out)
      have HNUM := Lib.hid hnum
      clear hnum hVlt
      by_cases h10 : n < 10
      · have d10 : decide ((n : Int) < 10) = true := decide_eq_true (by omega)
        go_enter Tryd.func30, Tryd.ntmps30
        go_upto_region 2 with fail
        rw [← HWA.out, HB0.out]
        clear HWA
        go_wp2_with fail
        refine HRD.out.mono ?_
        rintro e w1 ⟨rfl, rfl⟩
        go_upto_region 5 with fail
        rw [HWB.out]
        have x0 := hdb.x0
        clear HWB xa0 xaf hX
        obtain rfl : Z = (0, [], 8, 3) := by rw [← HZ.out]; exact dec3 HNUM.out (by rw [HLN.out]; exact h10)
        have r0 := hdb.r0
        have r1 := hdb.r1
        have n0 := hdb.n0
        have n1 := hdb.n1
        have f0 := hdb.rf 0
        have f1 := hdb.rf 1
        obtain ⟨y0, y1, hset⟩ := twoset r0 r1 (.int .i64 0) (.slice none 0 0)
        have hfin := hset.below hdb.be (fun k e => by have e : k = b0 := e; have := HB0.out; omega) hdb.be.size
        go_wp2
        refine bodyPost_ret (v := .tuple #[.agg #[.int .i64 0, .slice none 0 0], .int .i64 ((8 : Nat) : Int), .int .i64 3]) (by simp [results, Tryd.results30, go_sem, y0, y1]) rfl ⟨_, rfl, OwnW.nil _ _, hfin⟩
      · have d10 : decide ((n : Int) < 10) = false := decide_eq_false (by omega)
        obtain ⟨M, hM⟩ : ∃ M, rdN ((l.drop 8).take 2) = M := ⟨_, rfl⟩
        have HM := Lib.hid hM
        have hMlt : M < 65536 := by rw [← hM]; exact rdN_lt' _ 2 (by rw [List.length_take]; omega)
        have hrm := read_any _ 2 (c - 8) ((l.drop 8).take 2) wb (hdb.sg.cutB 8 2 (by omega)) (by omega)
        rw [hM] at hrm
        have HRM := Lib.hid hrm
        have hne8 : ¬ c = 8 := by omega
        have c10 : (10 : Int) ≤ (c : Int) := by omega
        clear hM hrm
        go_enter Tryd.func30, Tryd.ntmps30
        go_upto_region 2 with fail
        rw [← HWA.out, HB0.out]
        clear HWA
        go_wp2_with fail
        refine HRD.out.mono ?_
        rintro e w1 ⟨rfl, rfl⟩
        go_upto_region 5 with fail
        rw [HWB.out]
        have x0 := hdb.x0
        clear HWB xa0 xaf hX HRD
        go_wp2_with fail
        refine HRM.out.mono ?_
        rintro e w1 ⟨rfl, rfl⟩
        clear HRM
        by_cases m1 : M < 1
        · have e1 : decide ((M : Int) < 1) = true := decide_eq_true (by omega)
          obtain rfl : Z = (0, [], 8, 2) := by rw [← HZ.out]; exact dec4 HNUM.out (by rw [HLN.out]; exact h10) HM.out (Or.inl m1)
          have r0 := hdb.r0
          have r1 := hdb.r1
          have n0 := hdb.n0
          have n1 := hdb.n1
          have f0 := hdb.rf 0
          have f1 := hdb.rf 1
          obtain ⟨y0, y1, hset⟩ := twoset r0 r1 (.int .i64 0) (.slice none 0 0)
          have hfin := hset.below hdb.be (fun k e => by have e : k = b0 := e; have := HB0.out; omega) hdb.be.size
          go_wp2
          refine bodyPost_ret (v := .tuple #[.agg #[.int .i64 0, .slice none 0 0], .int .i64 ((8 : Nat) : Int), .int .i64 2]) (by simp [results, Tryd.results30, go_sem, y0, y1]) rfl ⟨_, rfl, OwnW.nil _ _, hfin⟩
        · have e1 : decide ((M : Int) < 1) = false := decide_eq_false (by omega)
          by_cases m2 : 64 < M
          · have e2 : decide ((64 : Int) < (M : Int)) = true := decide_eq_true (by omega)
            obtain rfl : Z = (0, [], 8, 2) := by rw [← HZ.out]; exact dec4 HNUM.out (by rw [HLN.out]; exact h10) HM.out (Or.inr m2)
            have r0 := hdb.r0
            have r1 := hdb.r1
            have n0 := hdb.n0
            have n1 := hdb.n1
            have f0 := hdb.rf 0
            have f1 := hdb.rf 1
            obtain ⟨y0, y1, hset⟩ := twoset r0 r1 (.int .i64 0) (.slice none 0 0)
            have hfin := hset.below hdb.be (fun k e => by have e : k = b0 := e; have := HB0.out; omega) hdb.be.size
            go_wp2
            refine bodyPost_ret (v := .tuple #[.agg #[.int .i64 0, .slice none 0 0], .int .i64 ((8 : Nat) : Int), .int .i64 2]) (by simp [results, Tryd.results30, go_sem, y0, y1]) rfl ⟨_, rfl, OwnW.nil _ _, hfin⟩
          · have e2 : decide ((64 : Int) < (M : Int)) = false := decide_eq_false (by omega)
            have hmum : rnum l 8 2 1 64 = .ok M 10 := rn_ok (by rw [HLN.out]; omega) (by omega) HM.out
            have HMUM := Lib.hid hmum
            clear hmum
            go_wp2
            go_loopw [8, 9, 10, 11, 12] (fun a s i _ _ w' => ∃ (j kk : Nat) (last : ByteArray) (D : List Wr6) (v : Value), j ≤ M ∧ a = .int .i64 (kk : Int) ∧ s = .string last ∧ i = .int .i64 (j : Int) ∧ DecI l M D kk last j ∧ D.length ≤ j ∧ kk ≤ n ∧ Ds w w' b0 (some ⟨gA, oA, none⟩) n l (V : Int) v ∧ OwnW w' (b0 + 3) v D) (fun _ _ i _ _ _ => M - (intOf i).toNat)
            case atStart => exact ⟨0, 10, _, [], _, by omega, rfl, rfl, rfl, DecI.start _ _, by simp, by omega, hdb, OwnW.nil _ _⟩
            case round =>
              clear hdb x0
              obtain ⟨j, kk, last, D, v, hj, rfl, rfl, rfl, hdi, hD, hkn, hdr, hov⟩ := hrel
              have HDI := Lib.hid hdi
              clear hdi
              by_cases hlt : j < M
              · have dj : decide ((j : Int) < (M : Int)) = true := decide_eq_true (by omega)
                by_cases q1 : n - kk < 2
                · have dq1 : decide ((n : Int) - (kk : Int) < 2) = true := decide_eq_true (by omega)
                  obtain rfl : Z = (0, [], kk, 3) := by rw [← HZ.out]; exact (dec5 HNUM.out HMUM.out (HDI.out.bad hlt (rwr_k (rk1 (by rw [HLN.out]; exact q1))))).trans rfl
                  have r0 := hdr.r0
                  have r1 := hdr.r1
                  have n0 := hdr.n0
                  have n1 := hdr.n1
                  have f0 := hdr.rf 0
                  have f1 := hdr.rf 1
                  obtain ⟨y0, y1, hset⟩ := twoset r0 r1 (.int .i64 0) (.slice none 0 0)
                  have hfin := hset.below hdr.be (fun k e => by have e : k = b0 := e; have := HB0.out; omega) hdr.be.size
                  go_wp2
                  refine bodyPost_ret (v := .tuple #[.agg #[.int .i64 0, .slice none 0 0], .int .i64 ((kk : Nat) : Int), .int .i64 3]) (by simp [results, Tryd.results30, go_sem, y0, y1]) rfl ⟨_, rfl, OwnW.nil _ _, hfin⟩
                · have dq1 : decide ((n : Int) - (kk : Int) < 2) = false := decide_eq_false (by omega)
                  obtain ⟨k1, hk1⟩ : ∃ k1, kk + 2 = k1 := ⟨_, rfl⟩
                  have Hk1 := Lib.hid hk1
                  have ik1 : (kk : Int) + 2 = (k1 : Int) := by omega
                  obtain ⟨m1, hm1⟩ : ∃ m1, rdN ((l.drop kk).take 2) = m1 := ⟨_, rfl⟩
                  have Hm1 := Lib.hid hm1
                  have lm1 : m1 < 65536 := by rw [← hm1]; exact rdN_lt' _ 2 (by rw [List.length_take]; omega)
                  have tm1 := read_any _ 2 (c - kk) ((l.drop kk).take 2) wr (hdr.sg.cutB kk 2 (by omega)) (by omega)
                  rw [hm1] at tm1
                  have HR1 := Lib.hid tm1
                  have nek1 : ¬ c = kk := by omega
                  have ak1 : k1 - kk = 2 := by omega
                  have wk1 : IntKind.i64.wrap (k1 : Int) = (k1 : Int) := IntWalk.i64_in _ (by omega)
                  have bk1 : (k1 : Int) ≤ (c : Int) := by omega
                  have gk1 : kk ≤ k1 := by omega
                  have vk1 : (kk : Int) ≤ (k1 : Int) := by omega
                  clear hm1 tm1 hk1
                  go_wp2_with fail
                  refine HR1.out.mono ?_
                  rintro e w1 ⟨rfl, rfl⟩
                  go_upto_region 20 with fail
                  by_cases q2 : m1 < 1
                  · have dq2 : decide ((m1 : Int) < 1) = true := decide_eq_true (by omega)
                    obtain rfl : Z = (0, [], kk, 2) := by rw [← HZ.out]; exact (dec5 HNUM.out HMUM.out (HDI.out.bad hlt (rwr_k (rk2 (by rw [HLN.out]; exact q1) Hm1.out (Or.inl q2))))).trans rfl
                    have r0 := hdr.r0
                    have r1 := hdr.r1
                    have n0 := hdr.n0
                    have n1 := hdr.n1
                    have f0 := hdr.rf 0
                    have f1 := hdr.rf 1
                    obtain ⟨y0, y1, hset⟩ := twoset r0 r1 (.int .i64 0) (.slice none 0 0)
                    have hfin := hset.below hdr.be (fun k e => by have e : k = b0 := e; have := HB0.out; omega) hdr.be.size
                    go_wp2
                    refine bodyPost_ret (v := .tuple #[.agg #[.int .i64 0, .slice none 0 0], .int .i64 ((kk : Nat) : Int), .int .i64 2]) (by simp [results, Tryd.results30, go_sem, y0, y1]) rfl ⟨_, rfl, OwnW.nil _ _, hfin⟩
                  · have dq2 : decide ((m1 : Int) < 1) = false := decide_eq_false (by omega)
                    by_cases q3 : 4000 < m1
                    · have dq3 : decide ((4000 : Int) < (m1 : Int)) = true := decide_eq_true (by omega)
                      obtain rfl : Z = (0, [], kk, 2) := by rw [← HZ.out]; exact (dec5 HNUM.out HMUM.out (HDI.out.bad hlt (rwr_k (rk2 (by rw [HLN.out]; exact q1) Hm1.out (Or.inr q3))))).trans rfl
                      have r0 := hdr.r0
                      have r1 := hdr.r1
                      have n0 := hdr.n0
                      have n1 := hdr.n1
                      have f0 := hdr.rf 0
                      have f1 := hdr.rf 1
                      obtain ⟨y0, y1, hset⟩ := twoset r0 r1 (.int .i64 0) (.slice none 0 0)
                      have hfin := hset.below hdr.be (fun k e => by have e : k = b0 := e; have := HB0.out; omega) hdr.be.size
                      go_wp2
                      refine bodyPost_ret (v := .tuple #[.agg #[.int .i64 0, .slice none 0 0], .int .i64 ((kk : Nat) : Int), .int .i64 2]) (by simp [results, Tryd.results30, go_sem, y0, y1]) rfl ⟨_, rfl, OwnW.nil _ _, hfin⟩
                    · have dq3 : decide ((4000 : Int) < (m1 : Int)) = false := decide_eq_false (by omega)
                      have hn1 : rnum l kk 2 1 4000 = .ok m1 k1 := by rw [← Hk1.out]; exact rn_ok (by rw [HLN.out]; exact q1) (by omega) Hm1.out
                      have HN1 := Lib.hid hn1
                      have hk1n : k1 ≤ n := by have := Hk1.out; omega
                      clear hn1 HR1
                      go_upto_region 23 with fail
                      by_cases q4 : n - k1 < m1
                      · have dq4 : decide ((n : Int) - (k1 : Int) < (m1 : Int)) = true := decide_eq_true (by omega)
                        obtain rfl : Z = (0, [], k1, 3) := by rw [← HZ.out]; exact (dec5 HNUM.out HMUM.out (HDI.out.bad hlt (rwr_k (rk3 HN1.out (by rw [HLN.out]; exact q4))))).trans rfl
                        have r0 := hdr.r0
                        have r1 := hdr.r1
                        have n0 := hdr.n0
                        have n1 := hdr.n1
                        have f0 := hdr.rf 0
                        have f1 := hdr.rf 1
                        obtain ⟨y0, y1, hset⟩ := twoset r0 r1 (.int .i64 0) (.slice none 0 0)
                        have hfin := hset.below hdr.be (fun k e => by have e : k = b0 := e; have := HB0.out; omega) hdr.be.size
                        go_wp2
                        refine bodyPost_ret (v := .tuple #[.agg #[.int .i64 0, .slice none 0 0], .int .i64 ((k1 : Nat) : Int), .int .i64 3]) (by simp [results, Tryd.results30, go_sem, y0, y1]) rfl ⟨_, rfl, OwnW.nil _ _, hfin⟩
                      · have dq4 : decide ((n : Int) - (k1 : Int) < (m1 : Int)) = false := decide_eq_false (by omega)
                        obtain ⟨k2, hk2⟩ : ∃ k2, k1 + m1 = k2 := ⟨_, rfl⟩
                        have Hk2 := Lib.hid hk2
                        have ik2 : (k1 : Int) + (m1 : Int) = (k2 : Int) := by omega
                        have hsk := hdr.sg.cutB k1 m1 (by omega)
                        have hkl : ((l.drop k1).take m1).length = m1 := by rw [List.length_take, List.length_drop, HLN.out]; omega
                        have kc := run_string_seg (P := Tryd.prog) wr 28 9 5 bt Tryd.underlying9 _ m1 (c - k1) _ hsk
                        obtain ⟨key, hkey⟩ : ∃ key : ByteArray, (⟨((l.drop k1).take m1).toArray⟩ : ByteArray) = key := ⟨_, rfl⟩
                        rw [hkey] at kc
                        have HKEY := Lib.hid hkey
                        have nek2 : ¬ c = k1 := by omega
                        have ak2 : k2 - k1 = m1 := by omega
                        have wk2 : IntKind.i64.wrap (k2 : Int) = (k2 : Int) := IntWalk.i64_in _ (by omega)
                        have bk2 : (k2 : Int) ≤ (c : Int) := by omega
                        have gk2 : k1 ≤ k2 := by omega
                        have vk2 : (k1 : Int) ≤ (k2 : Int) := by omega
                        have hk2n : k2 ≤ n := by omega
                        clear hkey hk2 hsk hkl
                        go_upto_region 26 with fail
                        clear kc
                        obtain ⟨g3, hg3⟩ : ∃ g3, wr.heap.size = g3 := ⟨_, rfl⟩
                        obtain ⟨w1, hw1⟩ : ∃ w1, wr.alloc (.cells #[.string key, .slice none 0 0, .bool false] 45) = w1 := ⟨_, rfl⟩
                        rw [hw1, hg3]
                        have t0 : w1.cell? ⟨g3, 0, none⟩ = some (.string key) := by rw [← hw1, ← hg3]; simp
                        have t1 : w1.cell? ⟨g3, 1, none⟩ = some (.slice none 0 0) := by rw [← hw1, ← hg3]; simp
                        have t2 : w1.cell? ⟨g3, 2, none⟩ = some (.bool false) := by rw [← hw1, ← hg3]; simp
                        have tf : ∀ j, w1.frozen? ⟨g3, j, none⟩ = false := fun j => by rw [← hw1, ← hg3]; simp
                        have hb1 : Below wr.heap.size wr w1 := by rw [← hw1]; exact (Below.refl _ _).alloc (Nat.le_refl _) _
                        have hd1 := hdr.below hb1
                        have hrz : b0 + 3 ≤ g3 := by have := hdr.lt; omega
                        have h1z : g3 < w1.heap.size := by rw [← hw1, ← hg3]; simp
                        have ho1 : Only wr w1 (fun k => k = g3) := Only.of_below hb1
                        have HG3 := Lib.hid hg3
                        clear hw1 hg3 hdr hb1
                        by_cases q5 : sle key last = true
                        · have q5' : (Op.bytesLess key.toList last.toList || key.toList == last.toList) = true := q5
                          obtain rfl : Z = (0, [], k1, 2) := by rw [← HZ.out]; exact (dec5 HNUM.out HMUM.out (HDI.out.bad hlt (rwr_k (rk4 HN1.out (by rw [HLN.out]; exact q4) HKEY.out q5)))).trans rfl
                          have r0 := hd1.r0
                          have r1 := hd1.r1
                          have n0 := hd1.n0
                          have n1 := hd1.n1
                          have f0 := hd1.rf 0
                          have f1 := hd1.rf 1
                          obtain ⟨y0, y1, hset⟩ := twoset r0 r1 (.int .i64 0) (.slice none 0 0)
                          have hfin := hset.below hd1.be (fun k e => by have e : k = b0 := e; have := HB0.out; omega) hd1.be.size
                          go_wp2
                          refine bodyPost_ret (v := .tuple #[.agg #[.int .i64 0, .slice none 0 0], .int .i64 ((k1 : Nat) : Int), .int .i64 2]) (by simp [results, Tryd.results30, go_sem, y0, y1]) rfl ⟨_, rfl, OwnW.nil _ _, hfin⟩
                        · have q5' : (Op.bytesLess key.toList last.toList || key.toList == last.toList) = false := by simpa [sle] using q5
                          have hkk := rk5 HN1.out (by rw [HLN.out]; exact q4) HKEY.out q5
                          rw [Hk2.out] at hkk
                          have HKK := Lib.hid hkk
                          clear hkk q5
                          go_upto_region 30 with fail
                          by_cases q6 : n ≤ k2
                          · have dq6 : decide ((n : Int) ≤ (k2 : Int)) = true := decide_eq_true (by omega)
                            obtain rfl : Z = (0, [], k2, 3) := by rw [← HZ.out]; exact (dec5 HNUM.out HMUM.out (HDI.out.bad hlt (rw5 HKK.out (by rw [HLN.out]; omega)))).trans rfl
                            have r0 := hd1.r0
                            have r1 := hd1.r1
                            have n0 := hd1.n0
                            have n1 := hd1.n1
                            have f0 := hd1.rf 0
                            have f1 := hd1.rf 1
                            obtain ⟨y0, y1, hset⟩ := twoset r0 r1 (.int .i64 0) (.slice none 0 0)
                            have hfin := hset.below hd1.be (fun k e => by have e : k = b0 := e; have := HB0.out; omega) hd1.be.size
                            go_wp2
                            refine bodyPost_ret (v := .tuple #[.agg #[.int .i64 0, .slice none 0 0], .int .i64 ((k2 : Nat) : Int), .int .i64 3]) (by simp [results, Tryd.results30, go_sem, y0, y1]) rfl ⟨_, rfl, OwnW.nil _ _, hfin⟩
                          · have dq6 : decide ((n : Int) ≤ (k2 : Int)) = false := decide_eq_false (by omega)
                            obtain ⟨g, hg⟩ : ∃ g : Nat, (l[k2]'(by rw [HLN.out]; omega)).toNat = g := ⟨_, rfl⟩
                            have hg8 : g < 256 := by rw [← hg]; exact byte_lt _
                            have hgr : rdN ((l.drop k2).take 1) = g := by rw [← hg]; exact rdN_one l k2 _
                            have hcg : w1.cell? ⟨gA, oA + k2, none⟩ = some (.int .u8 (g : Int)) := by
                              obtain ⟨ga, oa, e, hc⟩ := hd1.sg.at_ (show k2 < n by omega)
                              injection e with e
                              injection e with e1 e2
                              subst e1 e2
                              rw [hg] at hc
                              exact hc
                            have HGR := Lib.hid hgr
                            have i2 : k2 < n := by omega
                            obtain ⟨k3, hk3⟩ : ∃ k3, k2 + 1 = k3 := ⟨_, rfl⟩
                            have Hk3 := Lib.hid hk3
                            have ik3 : (k2 : Int) + 1 = (k3 : Int) := by omega
                            have wk3 : IntKind.i64.wrap (k3 : Int) = (k3 : Int) := IntWalk.i64_in _ (by omega)
                            have hk3n : k3 ≤ n := by omega
                            clear hg hgr hk3
                            go_upto_region 32 with fail
                            by_cases q7 : 1 < g
                            · have dq7 : decide ((1 : Int) < (g : Int)) = true := decide_eq_true (by omega)
                              obtain rfl : Z = (0, [], k2, 2) := by rw [← HZ.out]; exact (dec5 HNUM.out HMUM.out (HDI.out.bad hlt (rw6 HKK.out (by rw [HLN.out]; omega) HGR.out q7))).trans rfl
                              have r0 := hd1.r0
                              have r1 := hd1.r1
                              have n0 := hd1.n0
                              have n1 := hd1.n1
                              have f0 := hd1.rf 0
                              have f1 := hd1.rf 1
                              obtain ⟨y0, y1, hset⟩ := twoset r0 r1 (.int .i64 0) (.slice none 0 0)
                              have hfin := hset.below hd1.be (fun k e => by have e : k = b0 := e; have := HB0.out; omega) hd1.be.size
                              go_wp2
                              refine bodyPost_ret (v := .tuple #[.agg #[.int .i64 0, .slice none 0 0], .int .i64 ((k2 : Nat) : Int), .int .i64 2]) (by simp [results, Tryd.results30, go_sem, y0, y1]) rfl ⟨_, rfl, OwnW.nil _ _, hfin⟩
                            · have dq7 : decide ((1 : Int) < (g : Int)) = false := decide_eq_false (by omega)
                              have hng : rnum l k2 1 0 1 = .ok g k3 := by rw [← Hk3.out]; exact rn_ok (by rw [HLN.out]; omega) (by omega) HGR.out
                              have HNG := Lib.hid hng
                              have ft2 := tf 2
                              obtain ⟨gb, hgb⟩ : ∃ gb : Bool, ((g : Int) == 1) = gb := ⟨_, rfl⟩
                              obtain ⟨w2, hw2⟩ : ∃ w2, w1.setCell ⟨g3, 2, none⟩ (.bool gb) = w2 := ⟨_, rfl⟩
                              have n20 : (⟨g3, 2, none⟩ : Addr) ≠ ⟨g3, 0, none⟩ := by simp
                              have n21 : (⟨g3, 2, none⟩ : Addr) ≠ ⟨g3, 1, none⟩ := by simp
                              have s0 : w2.cell? ⟨g3, 0, none⟩ = some (.string key) := by rw [← hw2]; exact (World.cell?_setCell_other (h := n20) ..).trans t0
                              have s1 : w2.cell? ⟨g3, 1, none⟩ = some (.slice none 0 0) := by rw [← hw2]; exact (World.cell?_setCell_other (h := n21) ..).trans t1
                              have s2 : w2.cell? ⟨g3, 2, none⟩ = some (.bool gb) := by rw [← hw2]; exact World.cell?_setCell_same _ _ _ t2
                              have sf : ∀ j, w2.frozen? ⟨g3, j, none⟩ = false := fun j => by rw [← hw2, World.frozen?_setCell]; exact tf j
                              have ho2 : Only w1 w2 (fun k => k = g3) := by rw [← hw2]; exact (Only.refl w1 (fun k => k = g3)).setCell ⟨g3, 2, none⟩ (.bool gb) fun _ => rfl
                              have hd2 := hd1.only ho2 (fun k e => by have e : k = g3 := e; omega)
                              have h2z : g3 < w2.heap.size := World.block_lt_of_cell? w2 _ s0
                              have HW2 := Lib.hid hw2
                              clear hng hw2
                              go_upto_region 36 with fail
                              rw [HW2.out]
                              clear hcg t0 t1 t2 tf ft2 hd1 HW2
                              by_cases q8 : g = 1
                              · obtain rfl : gb = true := by rw [← hgb, q8]; rfl
                                have hng1 : rnum l k2 1 0 1 = .ok 1 k3 := by have h := HNG.out; rw [q8] at h; exact h
                                have hov2 := hov.only (ho1.trans ho2 fun _ _ h => h) (fun k _ h2 e => by have e : k = g3 := e; have := HG3.out; omega)
                                go_upto_region 47 with fail
                                have hdi2 := HDI.out.ok hlt (rw7 HKK.out hng1)
                                have HDI2 := Lib.hid hdi2
                                obtain ⟨S, hS1, hS2, hS3⟩ := hov2
                                have hvl := hS1.lt
                                have x0 := hd2.x0
                                have x1 := hd2.x1
                                have xf1 := hd2.xf 1
                                have hzd := hd2.lt
                                obtain ⟨A0, c0, rfl, _, hlc, hcm0⟩ := hS1.forms
                                obtain ⟨Q, hQ⟩ : ∃ Q, S.length = Q := ⟨_, rfl⟩
                                have HQ := Lib.hid hQ
                                have HS2 := Lib.hid hS2
                                have hQ64 : Q ≤ 64 := by omega
                                rw [hQ] at hS1 hvl hlc x1 hd2
                                try rw [hQ] at hvr
                                have hxq : WrAt w2 ⟨key, (none : Option Addr), 0, 0, true⟩ (⟨key, [], true⟩ : Wr6) ∧ (0 < 0 → ∀ a, (none : Option Addr) = some a → (Value.slice A0 Q c0).ownBlock ≠ some a.block ∧ b0 + 3 ≤ a.block) := ⟨⟨rfl, Seg.nil _ _, Nat.le_refl _, Nat.zero_le _, rfl⟩, fun h => absurd h (by omega)⟩
                                rw [hQ] at hS3
                                have hall : ∀ v9 w9, OwnG wrLay w9 (b0 + 3) 45 v9 (S ++ [⟨key, (none : Option Addr), 0, 0, true⟩]) → (w2.alloc (.cells #[.string key, .slice (none : Option Addr) 0 0, .bool true] 45)).grownBy w9 (Value.slice A0 Q c0).ownBlock → (v9.ownBlock = (Value.slice A0 Q c0).ownBlock ∨ v9.ownBlock = some (w2.alloc (.cells #[.string key, .slice (none : Option Addr) 0 0, .bool true] 45)).heap.size) →
                                    OwnW w9 (b0 + 3) v9 (D ++ [(⟨key, [], true⟩ : Wr6)]) ∧ Ds w w9 b0 (some ⟨gA, oA, none⟩) n l (V : Int) (.slice A0 Q c0) := by
                                  intro v9 w9 hown9 hg9 hat9
                                  refine ⟨OwnW.append (o := (.cells #[.string key, .slice (none : Option Addr) 0 0, .bool true] 45)) HS2.out hS3 hxq hown9 hg9 hat9, ?_⟩
                                  have hon9 : Only w2 w9 (fun b => (Value.slice A0 Q c0).ownBlock = some b) := ((Only.refl w2 (fun b => (Value.slice A0 Q c0).ownBlock = some b)).alloc (.cells #[.string key, .slice (none : Option Addr) 0 0, .bool true] 45)).trans (Only.of_grown (S := fun b => (Value.slice A0 Q c0).ownBlock = some b) hg9 fun b hb => hb) fun _ _ h => h
                                  exact hd2.only hon9 fun k hk => (hvl k hk).1
                                have HALL := Lib.hid hall
                                have HS1 := Lib.hid (hS1.alloc (.cells #[.string key, .slice (none : Option Addr) 0 0, .bool true] 45))
                                clear hQ hS2 hS3 hall hxq hS1 hdi2
                                go_wp2_with (at_builtin
                                             refine wpList_append_G _ rfl (.tmp 161) (.tmp 163) _ _ _ _ wrT rfl (b0 + 3) (.slice A0 Q c0) S rfl HS1.out (some ⟨w2.heap.size, 0, none⟩) 1 1 ([⟨key, (none : Option Addr), 0, 0, true⟩] : List WrS) rfl (SegG.newAt _ ([⟨key, (none : Option Addr), 0, 0, true⟩] : List WrS) _ _ _ 1 (by simp) rfl rfl) (by rw [HQ.out]; omega) (by simp; omega) ?_
                                             intro v9 w9 hown9 hg9 hat9
                                             obtain ⟨hO9, hd9⟩ := HALL.out v9 w9 hown9 hg9 hat9
                                             have z1 := hd9.x1
                                             have zf := hd9.xf 1
                                             obtain ⟨A5, c5, rfl, _, _, _⟩ := hO9.seg
                                             obtain ⟨P5, hP5⟩ : ∃ P5, (D ++ [(⟨key, [], true⟩ : Wr6)]).length = P5 := ⟨_, rfl⟩
                                             have HP5 := Lib.hid hP5
                                             rw [hP5] at hO9 ⊢
                                             clear hown9 hg9 hat9 hP5)
                                have hd5 := hd9.set1 (.slice A5 P5 c5)
                                have hO5 := hO9.only ((Only.refl w9 (fun k => k = b0 + 1 + 1)).setCell ⟨b0 + 1 + 1, 1, none⟩ (.slice A5 P5 c5) fun _ => rfl) (fun k h1 _ e => by have e : k = b0 + 1 + 1 := e; omega)
                                go_roundw
                                case rel => exact ⟨j + 1, k3, key, D ++ [(⟨key, [], true⟩ : Wr6)], _, hlt, rfl, rfl, by go_num, HDI2.out, by simp; omega, by omega, hd5, hO5⟩
                                case measure => simp [intOf]; omega
                              · obtain rfl : g = 0 := by omega
                                obtain rfl : gb = false := by rw [← hgb]; rfl
                                have hng0 : rnum l k2 1 0 1 = .ok 0 k3 := HNG.out
                                have hvr : ∀ k, v.ownBlock = some k → k < g3 := fun k hk => by obtain ⟨S, hS, _⟩ := hov; have := (hS.lt k hk).2; have := HG3.out; omega
                                go_upto_region 37 with fail
                                by_cases q9 : n - k3 < 2
                                · have dq9 : decide ((n : Int) - (k3 : Int) < 2) = true := decide_eq_true (by omega)
                                  obtain rfl : Z = (0, [], k3, 3) := by rw [← HZ.out]; exact (dec5 HNUM.out HMUM.out (HDI.out.bad hlt (rw8 HKK.out hng0 (rr1 (by rw [HLN.out]; exact q9))))).trans rfl
                                  have r0 := hd2.r0
                                  have r1 := hd2.r1
                                  have n0 := hd2.n0
                                  have n1 := hd2.n1
                                  have f0 := hd2.rf 0
                                  have f1 := hd2.rf 1
                                  obtain ⟨y0, y1, hset⟩ := twoset r0 r1 (.int .i64 0) (.slice none 0 0)
                                  have hfin := hset.below hd2.be (fun k e => by have e : k = b0 := e; have := HB0.out; omega) hd2.be.size
                                  go_wp2
                                  refine bodyPost_ret (v := .tuple #[.agg #[.int .i64 0, .slice none 0 0], .int .i64 ((k3 : Nat) : Int), .int .i64 3]) (by simp [results, Tryd.results30, go_sem, y0, y1]) rfl ⟨_, rfl, OwnW.nil _ _, hfin⟩
                                · have dq9 : decide ((n : Int) - (k3 : Int) < 2) = false := decide_eq_false (by omega)
                                  obtain ⟨k4, hk4⟩ : ∃ k4, k3 + 2 = k4 := ⟨_, rfl⟩
                                  have Hk4 := Lib.hid hk4
                                  have ik4 : (k3 : Int) + 2 = (k4 : Int) := by omega
                                  obtain ⟨m2, hm2⟩ : ∃ m2, rdN ((l.drop k3).take 2) = m2 := ⟨_, rfl⟩
                                  have Hm2 := Lib.hid hm2
                                  have lm2 : m2 < 65536 := by rw [← hm2]; exact rdN_lt' _ 2 (by rw [List.length_take]; omega)
                                  have tm2 := read_any _ 2 (c - k3) ((l.drop k3).take 2) w2 (hd2.sg.cutB k3 2 (by omega)) (by omega)
                                  rw [hm2] at tm2
                                  have HR2 := Lib.hid tm2
                                  have nek4 : ¬ c = k3 := by omega
                                  have ak4 : k4 - k3 = 2 := by omega
                                  have wk4 : IntKind.i64.wrap (k4 : Int) = (k4 : Int) := IntWalk.i64_in _ (by omega)
                                  have bk4 : (k4 : Int) ≤ (c : Int) := by omega
                                  have gk4 : k3 ≤ k4 := by omega
                                  have vk4 : (k3 : Int) ≤ (k4 : Int) := by omega
                                  clear hm2 tm2 hk4
                                  go_wp2_with fail
                                  refine HR2.out.mono ?_
                                  rintro e w3 ⟨rfl, rfl⟩
                                  go_upto_region 40 with fail
                                  by_cases q10 : 4000 < m2
                                  · have dq10 : decide ((4000 : Int) < (m2 : Int)) = true := decide_eq_true (by omega)
                                    obtain rfl : Z = (0, [], k3, 2) := by rw [← HZ.out]; exact (dec5 HNUM.out HMUM.out (HDI.out.bad hlt (rw8 HKK.out hng0 (rr2 (by rw [HLN.out]; exact q9) Hm2.out q10)))).trans rfl
                                    have r0 := hd2.r0
                                    have r1 := hd2.r1
                                    have n0 := hd2.n0
                                    have n1 := hd2.n1
                                    have f0 := hd2.rf 0
                                    have f1 := hd2.rf 1
                                    obtain ⟨y0, y1, hset⟩ := twoset r0 r1 (.int .i64 0) (.slice none 0 0)
                                    have hfin := hset.below hd2.be (fun k e => by have e : k = b0 := e; have := HB0.out; omega) hd2.be.size
                                    go_wp2
                                    refine bodyPost_ret (v := .tuple #[.agg #[.int .i64 0, .slice none 0 0], .int .i64 ((k3 : Nat) : Int), .int .i64 2]) (by simp [results, Tryd.results30, go_sem, y0, y1]) rfl ⟨_, rfl, OwnW.nil _ _, hfin⟩
                                  · have dq10 : decide ((4000 : Int) < (m2 : Int)) = false := decide_eq_false (by omega)
                                    have hn2 : rnum l k3 2 0 4000 = .ok m2 k4 := by rw [← Hk4.out]; exact rn_ok (by rw [HLN.out]; exact q9) (by omega) Hm2.out
                                    have HN2 := Lib.hid hn2
                                    have hk4n : k4 ≤ n := by have := Hk4.out; omega
                                    clear hn2 HR2
                                    go_upto_region 43 with fail
                                    by_cases q11 : n - k4 < m2
                                    · have dq11 : decide ((n : Int) - (k4 : Int) < (m2 : Int)) = true := decide_eq_true (by omega)
                                      obtain rfl : Z = (0, [], k4, 3) := by rw [← HZ.out]; exact (dec5 HNUM.out HMUM.out (HDI.out.bad hlt (rw8 HKK.out hng0 (rr3 HN2.out (by rw [HLN.out]; exact q11))))).trans rfl
                                      have r0 := hd2.r0
                                      have r1 := hd2.r1
                                      have n0 := hd2.n0
                                      have n1 := hd2.n1
                                      have f0 := hd2.rf 0
                                      have f1 := hd2.rf 1
                                      obtain ⟨y0, y1, hset⟩ := twoset r0 r1 (.int .i64 0) (.slice none 0 0)
                                      have hfin := hset.below hd2.be (fun k e => by have e : k = b0 := e; have := HB0.out; omega) hd2.be.size
                                      go_wp2
                                      refine bodyPost_ret (v := .tuple #[.agg #[.int .i64 0, .slice none 0 0], .int .i64 ((k4 : Nat) : Int), .int .i64 3]) (by simp [results, Tryd.results30, go_sem, y0, y1]) rfl ⟨_, rfl, OwnW.nil _ _, hfin⟩
                                    · have dq11 : decide ((n : Int) - (k4 : Int) < (m2 : Int)) = false := decide_eq_false (by omega)
                                      have hrow := rr4 HN2.out (show ¬ l.length - k4 < m2 by rw [HLN.out]; exact q11)
                                      obtain ⟨k5, hk5⟩ : ∃ k5, k4 + m2 = k5 := ⟨_, rfl⟩
                                      rw [hk5] at hrow
                                      have Hk5 := Lib.hid hk5
                                      have ik5 : (k4 : Int) + (m2 : Int) = (k5 : Int) := by omega
                                      obtain ⟨R2, hR2⟩ : ∃ R2, (if c = k4 then some (⟨gA, oA, none⟩ : Addr) else some ⟨gA, oA + k4, none⟩) = R2 := ⟨_, rfl⟩
                                      have hs3 := (hd2.sg.from_ k4 c (by omega) hnc).upto m2 (by omega)
                                      rw [hR2] at hs3
                                      obtain ⟨t, ht⟩ : ∃ t, (l.drop k4).take m2 = t := ⟨_, rfl⟩
                                      have htl : t.length = m2 := by rw [← ht, List.length_take, List.length_drop, HLN.out]; omega
                                      rw [ht] at hs3 hrow
                                      have hj := join_any R2 none m2 0 (c - k4) 0 _ [] w2 hs3 (Seg.nil _ _) (by omega)
                                      rw [List.append_nil] at hj
                                      have HJ := Lib.hid hj
                                      have HTL := Lib.hid htl
                                      have HROW := Lib.hid hrow
                                      have ak5 : k5 - k4 = m2 := by omega
                                      have wk5 : IntKind.i64.wrap (k5 : Int) = (k5 : Int) := IntWalk.i64_in _ (by omega)
                                      have bk5 : (k5 : Int) ≤ (c : Int) := by omega
                                      have gk5 : k4 ≤ k5 := by omega
                                      have vk5 : (k4 : Int) ≤ (k5 : Int) := by omega
                                      have hk5n : k5 ≤ n := by omega
                                      clear hk5 ht hs3 hj htl hrow
                                      go_wp2_with fail
                                      refine HJ.out.mono ?_
                                      rintro e w3 ⟨v3, rfl, ho3, hb3⟩
                                      obtain ⟨A3, c3, hv3, hsr, hl3, hc3⟩ := ho3.forms
                                      rw [HTL.out] at hv3 hsr hl3
                                      subst hv3
                                      have hbk := ho3.blk
                                      have u0 := cell_below hb3 s0
                                      have u1 := cell_below hb3 s1
                                      have u2 := cell_below hb3 s2
                                      have fu1 : w3.frozen? ⟨g3, 1, none⟩ = false := ((bcell hb3).2 g3 1 h2z).trans (sf 1)
                                      obtain ⟨w4, hw4⟩ : ∃ w4, w3.setCell ⟨g3, 1, none⟩ (.slice A3 m2 c3) = w4 := ⟨_, rfl⟩
                                      have n10 : (⟨g3, 1, none⟩ : Addr) ≠ ⟨g3, 0, none⟩ := by simp
                                      have n12 : (⟨g3, 1, none⟩ : Addr) ≠ ⟨g3, 2, none⟩ := by simp
                                      have p0 : w4.cell? ⟨g3, 0, none⟩ = some (.string key) := by rw [← hw4]; exact (World.cell?_setCell_other (h := n10) ..).trans u0
                                      have p1 : w4.cell? ⟨g3, 1, none⟩ = some (.slice A3 m2 c3) := by rw [← hw4]; exact World.cell?_setCell_same _ _ _ u1
                                      have p2 : w4.cell? ⟨g3, 2, none⟩ = some (.bool false) := by rw [← hw4]; exact (World.cell?_setCell_other (h := n12) ..).trans u2
                                      have ho4 : Only w3 w4 (fun k => k = g3) := by rw [← hw4]; exact (Only.refl w3 (fun k => k = g3)).setCell ⟨g3, 1, none⟩ (.slice A3 m2 c3) fun _ => rfl
                                      have ho23 : Only w2 w3 (fun k => k = g3) := Only.of_below hb3
                                      have hd4 := (hd2.below hb3).only ho4 (fun k e => by have e : k = g3 := e; omega)
                                      have hov4 := hov.only (((ho1.trans ho2 fun _ _ h => h).trans ho23 fun _ _ h => h).trans ho4 fun _ _ h => h) (fun k _ h2 e => by have e : k = g3 := e; have := HG3.out; omega)
                                      have hsr4 := hsr.only ho4 (fun hn a ha e => by have e : a.block = g3 := e; have := hbk a ha; omega)
                                      have HW4 := Lib.hid hw4
                                      clear hw4 hd2 ho3 hb3 ho23 ho4 hsr s0 s1 s2 HJ
                                      go_upto_region 47 with fail
                                      rw [HW4.out]
                                      clear u0 u1 u2 fu1 HW4
                                      have hdi2 := HDI.out.ok hlt (rw9 HKK.out hng0 HROW.out)
                                      have HDI2 := Lib.hid hdi2
                                      obtain ⟨S, hS1, hS2, hS3⟩ := hov4
                                      have hvl := hS1.lt
                                      have x0 := hd4.x0
                                      have x1 := hd4.x1
                                      have xf1 := hd4.xf 1
                                      have hzd := hd4.lt
                                      obtain ⟨A0, c0, rfl, _, hlc, hcm0⟩ := hS1.forms
                                      obtain ⟨Q, hQ⟩ : ∃ Q, S.length = Q := ⟨_, rfl⟩
                                      have HQ := Lib.hid hQ
                                      have HS2 := Lib.hid hS2
                                      have hQ64 : Q ≤ 64 := by omega
                                      rw [hQ] at hS1 hvl hlc x1 hd4
                                      try rw [hQ] at hvr
                                      have hxq : WrAt w4 ⟨key, A3, m2, c3, false⟩ (⟨key, t, false⟩ : Wr6) ∧ (0 < m2 → ∀ a, A3 = some a → (Value.slice A0 Q c0).ownBlock ≠ some a.block ∧ b0 + 3 ≤ a.block) := ⟨⟨rfl, hsr4, hl3, hc3, rfl⟩, fun hn a ha => ⟨fun e => by have := hvr a.block e; have := hbk a ha; omega, by have := hbk a ha; omega⟩⟩
                                      rw [hQ] at hS3
                                      have hall : ∀ v9 w9, OwnG wrLay w9 (b0 + 3) 45 v9 (S ++ [⟨key, A3, m2, c3, false⟩]) → (w4.alloc (.cells #[.string key, .slice A3 m2 c3, .bool false] 45)).grownBy w9 (Value.slice A0 Q c0).ownBlock → (v9.ownBlock = (Value.slice A0 Q c0).ownBlock ∨ v9.ownBlock = some (w4.alloc (.cells #[.string key, .slice A3 m2 c3, .bool false] 45)).heap.size) →
                                          OwnW w9 (b0 + 3) v9 (D ++ [(⟨key, t, false⟩ : Wr6)]) ∧ Ds w w9 b0 (some ⟨gA, oA, none⟩) n l (V : Int) (.slice A0 Q c0) := by
                                        intro v9 w9 hown9 hg9 hat9
                                        refine ⟨OwnW.append (o := (.cells #[.string key, .slice A3 m2 c3, .bool false] 45)) HS2.out hS3 hxq hown9 hg9 hat9, ?_⟩
                                        have hon9 : Only w4 w9 (fun b => (Value.slice A0 Q c0).ownBlock = some b) := ((Only.refl w4 (fun b => (Value.slice A0 Q c0).ownBlock = some b)).alloc (.cells #[.string key, .slice A3 m2 c3, .bool false] 45)).trans (Only.of_grown (S := fun b => (Value.slice A0 Q c0).ownBlock = some b) hg9 fun b hb => hb) fun _ _ h => h
                                        exact hd4.only hon9 fun k hk => (hvl k hk).1
                                      have HALL := Lib.hid hall
                                      have HS1 := Lib.hid (hS1.alloc (.cells #[.string key, .slice A3 m2 c3, .bool false] 45))
                                      clear hQ hS2 hS3 hall hxq hS1 hdi2
                                      go_wp2_with (at_builtin
                                                   refine wpList_append_G _ rfl (.tmp 161) (.tmp 163) _ _ _ _ wrT rfl (b0 + 3) (.slice A0 Q c0) S rfl HS1.out (some ⟨w4.heap.size, 0, none⟩) 1 1 ([⟨key, A3, m2, c3, false⟩] : List WrS) rfl (SegG.newAt _ ([⟨key, A3, m2, c3, false⟩] : List WrS) _ _ _ 1 (by simp) rfl rfl) (by rw [HQ.out]; omega) (by simp; omega) ?_
                                                   intro v9 w9 hown9 hg9 hat9
                                                   obtain ⟨hO9, hd9⟩ := HALL.out v9 w9 hown9 hg9 hat9
                                                   have z1 := hd9.x1
                                                   have zf := hd9.xf 1
                                                   obtain ⟨A5, c5, rfl, _, _, _⟩ := hO9.seg
                                                   obtain ⟨P5, hP5⟩ : ∃ P5, (D ++ [(⟨key, t, false⟩ : Wr6)]).length = P5 := ⟨_, rfl⟩
                                                   have HP5 := Lib.hid hP5
                                                   rw [hP5] at hO9 ⊢
                                                   clear hown9 hg9 hat9 hP5)
                                      have hd5 := hd9.set1 (.slice A5 P5 c5)
                                      have hO5 := hO9.only ((Only.refl w9 (fun k => k = b0 + 1 + 1)).setCell ⟨b0 + 1 + 1, 1, none⟩ (.slice A5 P5 c5) fun _ => rfl) (fun k h1 _ e => by have e : k = b0 + 1 + 1 := e; omega)
                                      go_roundw
                                      case rel => exact ⟨j + 1, k5, key, D ++ [(⟨key, t, false⟩ : Wr6)], _, hlt, rfl, rfl, by go_num, HDI2.out, by simp; omega, by omega, hd5, hO5⟩
                                      case measure => simp [intOf]; omega
              · obtain rfl : M = j := by omega
                have dj : decide ((M : Int) < (M : Int)) = false := by simp
                have hws := HDI.out.fin
                have HWS := Lib.hid hws
                clear hws
                by_cases hk : kk < n
                · have dk : decide ((kk : Int) < (n : Int)) = true := decide_eq_true (by omega)
                  obtain rfl : Z = (0, [], kk, 2) := by rw [← HZ.out]; exact dec6 HNUM.out HMUM.out HWS.out (by rw [HLN.out]; exact hk)
                  have r0 := hdr.r0
                  have r1 := hdr.r1
                  have n0 := hdr.n0
                  have n1 := hdr.n1
                  have f0 := hdr.rf 0
                  have f1 := hdr.rf 1
                  obtain ⟨y0, y1, hset⟩ := twoset r0 r1 (.int .i64 0) (.slice none 0 0)
                  have hfin := hset.below hdr.be (fun k e => by have e : k = b0 := e; have := HB0.out; omega) hdr.be.size
                  go_wp2
                  refine bodyPost_ret (v := .tuple #[.agg #[.int .i64 0, .slice none 0 0], .int .i64 ((kk : Nat) : Int), .int .i64 2]) (by simp [results, Tryd.results30, go_sem, y0, y1]) rfl ⟨_, rfl, OwnW.nil _ _, hfin⟩
                · have dk : decide ((kk : Int) < (n : Int)) = false := decide_eq_false (by omega)
                  obtain rfl : Z = (V, D, 0, 0) := by rw [← HZ.out]; exact dec7 HNUM.out HMUM.out HWS.out (by rw [HLN.out]; exact hk)
                  obtain ⟨A0, c0, rfl, _, _, _⟩ := hov.seg
                  obtain ⟨Q, hQ⟩ : ∃ Q, D.length = Q := ⟨_, rfl⟩
                  rw [hQ] at hdr hov
                  have r0 := hdr.r0
                  have r1 := hdr.r1
                  have f0 := hdr.rf 0
                  have f1 := hdr.rf 1
                  have x0 := hdr.x0
                  have x1 := hdr.x1
                  obtain ⟨y0, y1, hset⟩ := twoset r0 r1 (.int .i64 (V : Int)) (.slice A0 Q c0)
                  have hfin := hset.below hdr.be (fun k e => by have e : k = b0 := e; have := HB0.out; omega) hdr.be.size
                  have hof := (hov.only hset (fun k h1 _ e => by have e : k = b0 := e; omega)).mono (b := w.heap.size) (by have := HB0.out; omega)
                  clear hQ
                  go_wp2
                  refine bodyPost_ret (v := .tuple #[.agg #[.int .i64 (V : Int), .slice A0 Q c0], .int .i64 0, .int .i64 0]) (by simp [results, Tryd.results30, go_sem, y0, y1]) rfl ⟨_, rfl, hof, hfin⟩

end Go.Proofs.YtipfhcljdginoaaDoor
