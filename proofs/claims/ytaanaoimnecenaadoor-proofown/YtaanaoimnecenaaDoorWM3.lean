/-
  The walks of the document's answers for leaves, nodes and links.
-/
import Derived.Test.YtaanaoimnecenaaDoorWM2
import Derived.Lib.Strings
import Derived.Laws.Concat
namespace Go.Proofs.YtaanaoimnecenaaDoor
open Go.RowKit

theorem bytesBelow (W : World) (e : TypeId) (s : ByteArray) : Below W.heap.size W (Lib.bytesWorld W e s) :=
  ⟨rfl, rfl, rfl, by rw [Lib.bytesWorld_size]; omega, fun k hk => Lib.bytesWorld_at_old W e s k hk⟩
theorem bytesSeg (W : World) (e : TypeId) (s : ByteArray) : Seg (Lib.bytesWorld W e s) (some ⟨W.heap.size, 0, none⟩) s.size s.data.toList := by
  refine ⟨by simp, fun _ => ⟨_, _, rfl, fun j b hb => ?_⟩⟩
  have hj : j < s.size := by
    have := (List.getElem?_eq_some_iff.1 hb).1
    simpa using this
  rw [Nat.zero_add, Lib.bytesWorld_cell W e s j hj, List.getD_eq_getElem?_getD, hb]
  rfl
theorem Seg.one' (w : World) (x : Int) (t : TypeId) (g : Nat) (b : UInt8) (hg : g = w.heap.size) (h : x = (b.toNat : Int)) : Seg (w.alloc (.cells #[.int .u8 x] t)) (some ⟨g, 0, none⟩) 1 [b] := by
  subst hg
  exact Seg.one w x t b h

set_option maxHeartbeats 4000000 in
theorem rleafB_any (k : ByteArray) (A : Option Addr) (n c : Nat) (l : List UInt8) (w : World) (ha : Seg w A n l) (hk : k.size ≤ 100000000) (hn : n ≤ 100000000) :
    Calls Tryd.prog 53 #[.string k, .slice A n c] w fun e w' => ∃ v, e = .returned v ∧ Own w' w.heap.size 5 v (leafL k.data.toList l) ∧ Below w.heap.size w w' := by
  have kcv := fun W => Lib.run_convert_string_bytes (P := Tryd.prog) W 9 29 5 k Tryd.underlying9 Tryd.underlying29 Tryd.underlying5
  have hwr : IntKind.u64.wrap (k.size : Int) = (k.size : Int) := IntWalk.u64_in _ (by omega)
  go_enter Tryd.func53, Tryd.ntmps53
  have HK := Lib.hid (show k.data.toList.length = k.size by simp)
  have hb0 : Below w.heap.size w (w.alloc (.cells #[.int .u8 1] 5)) := (Below.refl _ _).alloc (Nat.le_refl _) _
  go_wp2_with fail
  refine (num_call _ _ _ (by omega) (by omega) (by omega)).mono ?_
  rintro e w1 ⟨v1, rfl, ho1, hb1⟩
  have hp1 : Seg w1 (some ⟨w.heap.size, 0, none⟩) 1 [1] := (Seg.one w _ _ 1 rfl).below hb1
  have hbw1 : Below w.heap.size w w1 := Below.next' hb0 hb1 hb0.size
  obtain ⟨d1, hd1⟩ : ∃ d1, high ((k.size : Int)).toNat (4 : Int).toNat = d1 := ⟨_, rfl⟩
  rw [hd1] at ho1
  have HL1 := Lib.hid (show d1.length = 4 by rw [← hd1]; exact high_length _ _)
  have HD1 := Lib.hid hd1
  obtain ⟨A1, c1, rfl, hs1, _, _⟩ := ho1.forms
  clear ho1 hb1 hb0 hd1
  go_wp2_with fail
  refine (join_any _ A1 1 d1.length _ c1 [1] d1 _ hp1 hs1 (by have := HL1.out; omega)).mono ?_
  rintro e w2 ⟨v2, rfl, ho2, hb2⟩
  obtain ⟨d2, hd2⟩ : ∃ d2, [1] ++ d1 = d2 := ⟨_, rfl⟩
  rw [hd2] at ho2
  have HL2 := Lib.hid (show d2.length = 5 by rw [← hd2, List.length_append, HL1.out]; rfl)
  have HD2 := Lib.hid hd2
  obtain ⟨A2, c2, rfl, hs2, _, _⟩ := ho2.forms
  have hbw2 : Below w.heap.size w w2 := Below.next' hbw1 hb2 hbw1.size
  clear ho2 hb2 hd2 hp1 hs1 hbw1
  go_wp2_with fail
  refine (join_any A2 _ d2.length k.size c2 _ d2 k.data.toList _ (hs2.below (bytesBelow _ _ _)) (bytesSeg _ _ _) (by have := HL2.out; omega)).mono ?_
  rintro e w3 ⟨v3, rfl, ho3, hb3⟩
  obtain ⟨d3, hd3⟩ : ∃ d3, d2 ++ k.data.toList = d3 := ⟨_, rfl⟩
  rw [hd3] at ho3
  have HL3 := Lib.hid (show d3.length = 5 + k.size by rw [← hd3, List.length_append, HL2.out, HK.out])
  have HD3 := Lib.hid hd3
  obtain ⟨A3, c3, rfl, hs3, _, _⟩ := ho3.forms
  have hbw3 : Below w.heap.size w w3 := Below.next' hbw2 (Below.next (bytesBelow _ _ _) hb3) hbw2.size
  clear ho3 hb3 hd3 hs2 hbw2 kcv
  go_wp2_with fail
  refine (join_any A3 A d3.length n c3 c d3 l _ hs3 (ha.below hbw3) (by have := HL3.out; omega)).mono ?_
  rintro e w4 ⟨v4, rfl, ho4, hb4⟩
  go_wp2
  go_ret
  refine ⟨_, rfl, ?_, Below.next' hbw3 hb4 hbw3.size⟩
  have := ho4.mono (b := w.heap.size) hbw3.size
  rw [← HD3.out, ← HD2.out, ← HD1.out] at this
  unfold leafL
  rw [HK.out]
  exact this

theorem add_data (a b : ByteArray) : (a ++ b).data.toList = a.data.toList ++ b.data.toList := by simp

set_option maxHeartbeats 4000000 in
theorem rnodeB_any (x y : ByteArray) (w : World) (hx : x.size ≤ 100000000) (hy : y.size ≤ 100000000) :
    Calls Tryd.prog 35 #[.string x, .string y] w fun e w' => ∃ A c d, e = .returned (.slice A d.length c) ∧ Seg w' A d.length d ∧ d = nodeL x.data.toList y.data.toList ∧ Below w.heap.size w w' := by
  have a1 : ∀ W, (Op.stringOp .add ⟨#[2]⟩ x).run Tryd.prog W = .ok (.string (⟨#[2]⟩ ++ x)) W := fun W => run_string_add_sum (P := Tryd.prog) W ⟨#[2]⟩ x (by show 1 + x.size ≤ _; omega)
  obtain ⟨s1, hs1⟩ : ∃ s1 : ByteArray, ⟨#[2]⟩ ++ x = s1 := ⟨_, rfl⟩
  have hz1 : s1.size = 1 + x.size := by rw [← hs1, ByteArray.size_append]; rfl
  rw [hs1] at a1
  have a2 : ∀ W, (Op.stringOp .add s1 y).run Tryd.prog W = .ok (.string (s1 ++ y)) W := fun W => run_string_add_sum (P := Tryd.prog) W s1 y (by omega)
  obtain ⟨s2, hs2⟩ : ∃ s2 : ByteArray, s1 ++ y = s2 := ⟨_, rfl⟩
  rw [hs2] at a2
  have HD : Hid (s2.data.toList = nodeL x.data.toList y.data.toList) := Lib.hid (by rw [← hs2, ← hs1, add_data, add_data]; rfl)
  have HZ := Lib.hid (show s2.data.toList.length = s2.size by simp)
  clear hs1 hs2 hz1
  have kcv := fun W => Lib.run_convert_string_bytes (P := Tryd.prog) W 9 29 5 s2 Tryd.underlying9 Tryd.underlying29 Tryd.underlying5
  go_enter Tryd.func35, Tryd.ntmps35
  go_wp2
  go_ret
  refine ⟨some ⟨w.heap.size, 0, none⟩, grownCap w s2.size 0 5, s2.data.toList, ?_, ?_, HD.out, bytesBelow _ _ _⟩
  · rw [HZ.out]; rfl
  · rw [HZ.out]
    exact bytesSeg _ _ _

end Go.Proofs.YtaanaoimnecenaaDoor
