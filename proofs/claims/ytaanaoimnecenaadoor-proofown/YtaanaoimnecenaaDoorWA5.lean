/-
  The walk of write: bytes come one by one; a block that is full is mixed.
-/
import Derived.Test.YtaanaoimnecenaaDoorWA4
namespace Go.Proofs.YtaanaoimnecenaaDoor
open Go.RowKit

/-- What a hasher holds when the bytes m have come. -/
structure St (m : List UInt8) (s : S8) (blk : List UInt8) (u : Nat) : Prop where
  words : s = digest m (m.length / 64)
  used : u = m.length % 64
  len : blk.length = 64
  rest : blk.take u = m.drop (64 * (m.length / 64))

theorem set_take8 (l : List UInt8) (k : Nat) (x : UInt8) (h : k < l.length) : (l.set k x).take (k + 1) = l.take k ++ [x] := by
  rw [List.take_succ_eq_append_getElem (by simpa using h)]
  congr 1
  · rw [List.take_set_of_le (Nat.le_refl _)]
  · simp
theorem St.lt {m : List UInt8} {s : S8} {blk : List UInt8} {u : Nat} (h : St m s blk u) : u < 64 := by rw [h.used]; omega
theorem St.more {m : List UInt8} {s : S8} {blk : List UInt8} {u : Nat} (h : St m s blk u) (b : UInt8) (hu : u + 1 ≠ 64) : St (m ++ [b]) s (blk.set u b) (u + 1) := by
  have h1 := h.used
  have hlt := h.lt
  have hd : (m ++ [b]).length / 64 = m.length / 64 := by rw [List.length_append, List.length_singleton]; omega
  refine ⟨?_, ?_, by rw [List.length_set]; exact h.len, ?_⟩
  · rw [hd, digest_append m [b] _ (by omega)]; exact h.words
  · rw [List.length_append, List.length_singleton]; omega
  · rw [set_take8 _ _ _ (by rw [h.len]; exact hlt), hd, List.drop_append_of_le_length (by omega), h.rest]
theorem St.full {m : List UInt8} {s : S8} {blk : List UInt8} {u : Nat} (h : St m s blk u) (b : UInt8) (hu : u + 1 = 64) : St (m ++ [b]) (comp s (blk.set u b)) (blk.set u b) 0 := by
  have h1 := h.used
  have hlt := h.lt
  have hlen := h.len
  have hd : (m ++ [b]).length / 64 = m.length / 64 + 1 := by rw [List.length_append, List.length_singleton]; omega
  have hb : blk.set u b = ((m ++ [b]).drop (64 * (m.length / 64))).take 64 := by
    rw [List.drop_append_of_le_length (by omega), ← h.rest, ← set_take8 _ _ _ (by omega), hu, List.take_take, Nat.min_self]
    rw [List.take_of_length_le (by rw [List.length_set]; omega)]
  refine ⟨?_, ?_, by rw [List.length_set]; exact h.len, ?_⟩
  · rw [hd, digest, digest_append m [b] _ (by omega), ← h.words, ← hb]
  · rw [List.length_append, List.length_singleton]; omega
  · rw [hd, List.drop_of_length_le (by rw [List.length_append, List.length_singleton]; omega)]
    rfl

theorem Seg.grown {w w' : World} {A : Option Addr} {n g : Nat} {l : List UInt8} (h : Seg w A n l) (hg : w.grownBy w' (some g)) (hne : 0 < n → ∀ a, A = some a → a.block ≠ g) : Seg w' A n l := by
  refine ⟨h.1, fun hn => ?_⟩
  obtain ⟨g', o, e, hc⟩ := h.2 hn
  refine ⟨g', o, e, fun j b hb => ?_⟩
  have := hc j b hb
  exact hg.cell this (by intro e'; injection e' with e'; exact hne hn _ e e')

theorem Hs.drew {w : World} {g : Nat} {s : S8} {blk : List UInt8} {u : Nat} (h : Hs w g s blk u) : Hs w.drew g s blk u := ⟨h.words, h.block, h.len, h.used, h.free⟩
theorem Hs.put {w : World} {g : Nat} {s : S8} {blk : List UInt8} {u : Nat} (h : Hs w g s blk u) (hu : u < 64) (b : UInt8) (x y : Int) (hx : x = (b.toNat : Int)) (z : Nat) (hy : y = (z : Int)) :
    Hs ((w.setCell ⟨g, 8 + u, none⟩ (.int .u8 x)).setCell ⟨g, 72, none⟩ (.int .i64 y)) g s (blk.set u b) z := by
  subst hx hy
  have hl := h.len
  refine ⟨?_, ?_, by rw [List.length_set]; exact hl, ?_, ?_⟩
  · exact (h.words.other _ _ (.inr (.inr (by simp [S8.list])))).other _ _ (.inr (.inr (by simp [S8.list])))
  · exact (h.block.set u (by omega) b _ rfl).other _ _ (.inr (.inr (by rw [List.length_set]; simp only; omega)))
  · exact World.cell?_setCell_same _ _ _ ((World.cell?_setCell_other _ _ _ _ (by intro e; injection e with _ e; omega)).trans h.used)
  · rw [World.frozen?_setCell, World.frozen?_setCell]
    exact h.free
theorem Hs.zero {w : World} {g : Nat} {s : S8} {blk : List UInt8} {u : Nat} (h : Hs w g s blk u) (z : Nat) (y : Int) (hy : y = (z : Int)) : Hs (w.setCell ⟨g, 72, none⟩ (.int .i64 y)) g s blk z := by
  subst hy
  have hl := h.len
  refine ⟨h.words.other _ _ (.inr (.inr (by simp [S8.list]))), h.block.other _ _ (.inr (.inr (by simp only; omega))), hl, World.cell?_setCell_same _ _ _ h.used, ?_⟩
  rw [World.frozen?_setCell]
  exact h.free

set_option maxRecDepth 8000 in
set_option maxHeartbeats 4000000 in
theorem write_any (g : Nat) (m : List UInt8) (s : S8) (blk : List UInt8) (u : Nat) (A : Option Addr) (n c : Nat) (l : List UInt8) (w : World) (hh : Hs w g s blk u) (hst : St m s blk u) (ht : Tab w) (hg : 0 < g)
    (ha : Seg w A n l) (hn : n ≤ maxLen) (hne : 0 < n → ∀ a, A = some a → a.block ≠ g) :
    Calls Tryd.prog 91 #[.pointer (some ⟨g, 0, none⟩), .slice A n c] w fun e w' => e = .returned (.tuple #[]) ∧ (∃ s' blk' u', Hs w' g s' blk' u' ∧ St (m ++ l) s' blk' u') ∧ w.grownBy w' (some g) := by
  unfold maxLen at hn
  have HG := Lib.hid hg
  clear hg
  go_enter Tryd.func91, Tryd.ntmps91
  go_wp2_with fail
  go_loopw [5, 8] (fun _ i w' => ∃ (k : Nat) (s' : S8) (blk' : List UInt8) (u' : Nat), k ≤ n ∧ i = .int .i64 k ∧ Hs w' g s' blk' u' ∧ St (m ++ l.take k) s' blk' u' ∧ w.grownBy w' (some g)) (fun _ i _ => n - (intOf i).toNat)
  case atStart => exact ⟨0, s, blk, u, by omega, rfl, hh, by simpa using hst, World.grownBy.refl _ _⟩
  case round =>
    clear hh hst
    obtain ⟨k, s, blk, u, hk, rfl, hh, hst, hgr⟩ := hrel
    have htw : Tab wr := Tab.keep ht hgr (by intro e; injection e with e; have := HG.out; omega)
    by_cases hlt : k < n
    · obtain ⟨g', o, rfl, hc⟩ := (ha.grown hgr hne).at_ hlt
      have HT := Lib.hid (show l.take (k + 1) = l.take k ++ [l[k]'(by rw [ha.1]; exact hlt)] from List.take_succ_eq_append_getElem (by rw [ha.1]; exact hlt))
      have hb0 := byte_lt (l[k]'(by rw [ha.1]; exact hlt))
      generalize l[k]'(by rw [ha.1]; exact hlt) = b at *
      have hu := hst.lt
      have cu := hh.used
      have fu := hh.free
      have cb := hh.block.1 u (by rw [hh.len]; exact hu)
      have fb := hh.block.2 u (by rw [hh.len]; exact hu)
      generalize blk.getD u 0 = b9 at *
      have hu' : (u : Int) < 64 := by omega
      by_cases hfull : u + 1 = 64
      · have hd : ((u : Int) + 1 == 64) = true := by simp; omega
        go_wp2_with fail
        refine wp_region_still_tail 9 (by kernel_rfl) (by kernel_rfl) ?_
        simp only [List.take_succ_cons, List.take_zero, List.drop_succ_cons, List.drop_zero]
        change wpStill _ _ wr.drew _ _ _
        repeat
          refine wpStill_step (fun K hK => ?_)
          go_simp
          refine hK _ ?_
          clear hK K
        refine wpStill_nil ?_
        change wpList _ _ _ _ _ wr.drew
        go_wp2_with fail
        have hp := (hh.put hu b (b.toNat : Int) ((u : Int) + 1) rfl (u + 1) (by omega)).drew
        have hgp : wr.grownBy (((wr.setCell ⟨g, 8 + u, none⟩ (.int .u8 (b.toNat : Int))).setCell ⟨g, 72, none⟩ (.int .i64 ((u : Int) + 1))).drew) (some g) := ((grown_setCell _ _ _ _).trans (grown_setCell _ _ _ _)).trans (grown_drew _ _)
        refine (mix_any g s (blk.set u b) (u + 1) _ hp (Tab.keep htw hgp (by intro e; injection e with e; have := HG.out; omega)) HG.out).mono ?_
        rintro e w2 ⟨rfl, hh2, hg2⟩
        have hs2 := hst.full b hfull
        have hgr2 : w.grownBy w2 (some g) := (hgr.trans hgp).trans hg2
        have cu2 := hh2.used
        have fu2 := hh2.free
        clear hp hgp hg2 hst hh hgr htw cu fu cb fb hd
        generalize comp s (blk.set u b) = s2 at *
        generalize blk.set u b = blk2 at *
        go_wp2
        go_roundw
        case rel => exact ⟨k + 1, s2, blk2, 0, by omega, by go_num, hh2.zero 0 _ rfl, by rw [HT.out, ← List.append_assoc]; exact hs2, hgr2.trans (grown_setCell _ _ _ _)⟩
        case measure => simp [intOf]; omega
      · have hd : ((u : Int) + 1 == 64) = false := by simp; omega
        go_wp2_with fail
        refine wp_region_still_tail 9 (by kernel_rfl) (by kernel_rfl) ?_
        simp only [List.take_succ_cons, List.take_zero, List.drop_succ_cons, List.drop_zero]
        change wpStill _ _ wr.drew _ _ _
        repeat
          refine wpStill_step (fun K hK => ?_)
          go_simp
          refine hK _ ?_
          clear hK K
        refine wpStill_nil ?_
        change wpList _ _ _ _ _ wr.drew
        go_wp2
        go_roundw
        case rel => exact ⟨k + 1, s, blk.set u b, u + 1, by omega, by go_num, (hh.put hu b (b.toNat : Int) ((u : Int) + 1) rfl (u + 1) (by omega)).drew, by rw [HT.out, ← List.append_assoc]; exact hst.more b hfull, hgr.trans (((grown_setCell _ _ _ _).trans (grown_setCell _ _ _ _)).trans (grown_drew _ _))⟩
        case measure => simp [intOf]; omega
    · have HK := Lib.hid (show l.take k = l from List.take_of_length_le (by rw [ha.1]; omega))
      go_wp2
      go_end0
      rw [HK.out] at hst
      exact ⟨rfl, ⟨s, blk, u, hh, hst⟩, hgr⟩

end Go.Proofs.YtaanaoimnecenaaDoor
