/-
  The walk of the law ShaLengths.
-/
import Derived.Test.YtiggnmefechbaabDoorWD2
import Derived.OpenShut
namespace Go.Proofs.YtiggnmefechbaabDoor
open Go.RowKit

/-- A row of the call's own, cell by cell. -/
theorem Own.arB {w : World} {base : Nat} {e : TypeId} {g n c : Nat} {l : List UInt8} (h : Own w base e (.slice (some ⟨g, 0, none⟩) n c) l) : ArB w g 0 l := by
  obtain ⟨A, c', hv, hs, _, _⟩ := h.forms
  injection hv with hA hn hc
  subst hA
  rcases h.2 with ⟨hx, _⟩ | ⟨g', cap, cur, hx, _, hg, _, _, _, _⟩
  · cases hx
  · injection hx with hA2 _ _
    injection hA2 with hA2
    injection hA2 with hA3 _
    subst hA3
    refine ⟨fun j hj => ?_, fun j hj => ?_⟩
    · rw [hs.cell rfl hj, getD_drop4 l j hj]
    · simp [World.frozen?, hg]
theorem take_fill (l : List UInt8) (k : Nat) (b : UInt8) (h : l.take k = List.replicate k b) (hk : k < l.length) : (l.set k b).take (k + 1) = List.replicate (k + 1) b := by
  rw [set_take8 _ _ _ hk, h, List.replicate_succ']

set_option maxRecDepth 8000 in
set_option maxHeartbeats 4000000 in
theorem shaLengths_core (x y : Int) (w : World) (hx0 : 0 ≤ x) (hx1 : x ≤ 65535) (b : UInt8) (hy : y = (b.toNat : Int)) (ht : Tab w) :
    Calls Tryd.prog 4 #[.int .u16 x, .int .u8 y] w fun e w' => e = .returned (.bool true) ∧ Below w.heap.size w w' := by
  have HY := Lib.hid hy
  clear hy
  have hr0 : 0 ≤ x % 600 := by omega
  have hr1 : x % 600 < 600 := by omega
  obtain ⟨r, hr⟩ : ∃ r : Nat, x % 600 = (r : Int) := ⟨(x % 600).toNat, by omega⟩
  have hr9 : r < 600 := by omega
  go_enter Tryd.func4, Tryd.ntmps4
  go_wp2_with (at_make
               refine wpList_make_bytes _ rfl (.tmp 9) (.tmp 9) _ _ bt rfl w.heap.size .i64 .i64 r r r rfl rfl rfl rfl (by omega) (Nat.le_refl _) ?_
               intro w1 ho1 hg1)
  have hB := ho1.arB
  have hb1 : Below w.heap.size w w1 := (Below.refl _ _).grown hg1 (Nat.le_refl _) (by intro k hk; cases hk)
  clear ho1 hg1 hr hr0 hr1
  go_loopw [6] (fun i w' => ∃ (k : Nat) (l : List UInt8), k ≤ r ∧ i = .int .i64 k ∧ l.length = r ∧ l.take k = List.replicate k b ∧ ArB w' w.heap.size 0 l ∧ Below w.heap.size w w') (fun i _ => r - (intOf i).toNat)
  case atStart => exact ⟨0, List.replicate r 0, by omega, rfl, by simp, rfl, hB, hb1⟩
  case round =>
    clear hB hb1
    obtain ⟨k, l, hk, rfl, hl, hT, hB, hbw⟩ := hrel
    by_cases hlt : k < r
    · have c0 := hB.1 k (by omega)
      have f0 := hB.2 k (by omega)
      simp only [Nat.zero_add] at c0 f0
      generalize l.getD k 0 = b9 at *
      have HL := Lib.hid hl
      have HT := Lib.hid hT
      clear hl hT
      go_wp2
      go_roundw
      case rel =>
        refine ⟨k + 1, l.set k b, hlt, by go_num, by rw [List.length_set]; exact HL.out, take_fill l k b HT.out (by rw [HL.out]; exact hlt), ?_, hbw.setCell (Nat.le_refl _) _⟩
        have := hB.set k (by rw [HL.out]; exact hlt) b _ HY.out
        rw [Nat.zero_add] at this
        exact this
      case measure => simp [intOf]; omega
    · have hs := hB.seg
      rw [hl] at hs
      have hsz := hbw.size
      clear hT hB
      obtain rfl : k = r := by omega
      have HL := Lib.hid hl
      clear hl
      go_wp2_with fail
      refine (abc_any _ (Tab.below ht hbw)).mono ?_
      rintro e w2 ⟨rfl, hb2⟩
      have hs2 := hs.below hb2
      have hbw2 : Below w.heap.size w w2 := Below.next' hbw hb2 hbw.size
      clear hb2 hs
      go_wp2_with fail
      refine (sum_any _ k k l _ hs2 (by omega) (Tab.below ht hbw2)).mono ?_
      rintro e w3 ⟨rfl, hb3⟩
      have hs3 := hs2.below hb3
      have hbw3 : Below w.heap.size w w3 := Below.next' hbw2 hb3 hbw2.size
      clear hb3 hs2
      go_wp2_with fail
      refine (rsum_any _ k k l _ hs3 (by omega)).mono ?_
      rintro e w4 ⟨rfl, hb4⟩
      have hbw4 : Below w.heap.size w w4 := Below.next' hbw3 hb4 hbw3.size
      go_wp2
      go_ret
      exact ⟨rfl, hbw4⟩

theorem byte_of {y : Int} (h0 : 0 ≤ y) (h1 : y ≤ 255) : ∃ b : UInt8, y = (b.toNat : Int) := ⟨UInt8.ofNat y.toNat, by rw [UInt8.toNat_ofNat', Nat.mod_eq_of_lt (by omega)]; omega⟩
theorem shaLengths_walk (x y : Int) (w : World) (hx : (Lit.int .u16 x).wf = true) (hy : (Lit.int .u8 y).wf = true) (ht : Tab w) :
    Calls Tryd.prog 4 #[.int .u16 x, .int .u8 y] w fun e w' => e = .returned (.bool true) ∧ Below w.heap.size w w' := by
  obtain ⟨b, hb⟩ := byte_of (bounds_u8 hy).1 (bounds_u8 hy).2
  exact shaLengths_core x y w (bounds_u16 hx).1 (bounds_u16 hx).2 b hb ht

end Go.Proofs.YtiggnmefechbaabDoor
