/-
  The document's example ('keeps'), and the law DiskNil.
-/
import Derived.Test.YthpcpecklemfcaaDK2
import Derived.Lib.SlBytesConst
namespace Go.Proofs.Ythpcpecklemfcaa
open Go.RowKit

theorem Below.drewN' {B : Nat} {a w : World} (h : Below B a w) (k : Nat) : Below B a (w.drewN k) := ⟨h.os, h.tape, h.output, h.size, h.block⟩
theorem dn_false (c : Int) : dn false c = c := by simp [dn]
theorem wk_false (c : Int) : wk false c = true := rfl
theorem Dk.alloc {w : World} {B g : Nat} {v : Value} {l : List UInt8} {s : Nat} {f : Bool} {c : Int} (h : Dk w B g v l s f c) (o : Obj) : Dk (w.alloc o) B g v l s f c :=
  h.only ((Only.refl w fun _ => False).alloc o) fun _ _ => id
theorem Dk.size {w : World} {B g : Nat} {v : Value} {l : List UInt8} {s : Nat} {f : Bool} {c : Int} (h : Dk w B g v l s f c) : B ≤ w.heap.size := Nat.le_of_lt (Nat.lt_of_le_of_lt h.hB h.dc.lt)
theorem Dk.belows {w w' a : World} {B g : Nat} {v : Value} {l : List UInt8} {s : Nat} {f : Bool} {c : Int} (h : Dk w B g v l s f c) (h0 : Below B a w) (ho : Only w w' (DkS g v)) : Below B a w' := ho.below h0 h.ge h.size
theorem Dk.belowg {w w' a : World} {B g : Nat} {v : Value} {l : List UInt8} {s : Nat} {f : Bool} {c : Int} (h : Dk w B g v l s f c) (h0 : Below B a w) (ho : Only w w' (fun k => k = g)) : Below B a w' := ho.below h0 (fun _ e => by rw [e]; exact h.hB) h.size

set_option maxRecDepth 4000 in
set_option maxHeartbeats 4000000 in
theorem keeps_any (w : World) :
    Calls Try.prog 5 #[] w fun e w' => e = .returned (.bool true) ∧ Below w.heap.size w w' := by
  go_enter Try.func5, Try.ntmps5
  go_wp2_with fail
  refine (new_any none 0 0 [] _ (Seg.nil _ _) (by omega)).mono ?_
  rintro e w1 ⟨g, v1, rfl, hd1, hb1⟩
  have kc := Lib.run_convert_bytes_const (P := Try.prog) w1 22 5 #[.int .u8 97, .int .u8 98] 2 2 Try.underlying22 Try.underlying5
  go_wp2_with fail
  refine (append_ok (hd1.alloc _) rfl _ 2 _ [97, 98] (Seg.newF _ _ _ _ _ _ rfl rfl) (fun _ a e => ?_) (by simp)).mono ?_
  · injection e with e
    subst e
    have := hd1.dc.lt
    intro e
    simp at e
    omega
  rintro e w2 ⟨rfl, v2, hd2, ho2, hm2⟩
  have hb2 := (hd1.alloc _).belows (hb1.alloc hb1.size _) ho2
  rw [dn_false] at hd2
  clear ho2 hm2 hd1 hb1 kc
  go_wp2_with fail
  refine (sync_ok hd2 rfl).mono ?_
  rintro e w3 ⟨rfl, hd3, ho3⟩
  have hb3 := hd2.belowg hb2 ho3
  rw [dn_false] at hd3
  clear ho3 hd2 hb2
  have kc := Lib.run_convert_bytes_const (P := Try.prog) w3 22 5 #[.int .u8 99, .int .u8 100] 2 2 Try.underlying22 Try.underlying5
  go_wp2_with fail
  refine (append_ok (hd3.alloc _) rfl _ 2 _ [99, 100] (Seg.newF _ _ _ _ _ _ rfl rfl) (fun _ a e => ?_) (by simp)).mono ?_
  · injection e with e
    subst e
    have := hd3.dc.lt
    intro e
    simp at e
    omega
  rintro e w4 ⟨rfl, v4, hd4, ho4, hm4⟩
  have hb4 := (hd3.alloc _).belows (hb3.alloc hb3.size _) ho4
  rw [dn_false] at hd4
  clear ho4 hm4 hd3 hb3 kc
  go_wp2_with fail
  refine (crash_any hd4 1 (by simp)).mono ?_
  rintro e w5 ⟨rfl, v5, hd5, ho5, hm5⟩
  have hb5 := hd4.belowg hb4 ho5
  have hd6 : Dk w5 w.heap.size g v5 [97, 98, 99] 3 false 0 := hd5
  clear ho5 hm5 hd4 hb4 hd5
  go_wp2_with fail
  refine (dread_any hd6 (by simp)).mono ?_
  rintro e w6 ⟨v6, rfl, ho6, hb6⟩
  obtain ⟨A6, c6, rfl, hs6, _, _⟩ := ho6.forms
  have hd7 := (hd6.below hb6)
  have hb7 := Below.next' hb5 hb6 hb5.size
  clear hd6 hb6 hb5 ho6
  have kc := Lib.run_convert_bytes_const (P := Try.prog) w6 22 5 #[.int .u8 97, .int .u8 98, .int .u8 99] 3 3 Try.underlying22 Try.underlying5
  go_wp2_with fail
  refine (bytes_any A6 _ _ 3 c6 _ [97, 98, 99] [97, 98, 99] _ (hs6.alloc _) (Seg.newF _ [97, 98, 99] _ _ _ _ rfl rfl) (by simp [maxLen])).mono ?_
  rintro e w8 ⟨rfl, u, rfl⟩
  rw [show (([97, 98, 99] : List UInt8) == [97, 98, 99]) = true from rfl]
  have hd8 := (hd7.alloc (.cells (cellsB [97, 98, 99]).toArray 5 (3, 4))).drewN u
  have hb8 : Below w.heap.size w ((w6.alloc (.cells (cellsB [97, 98, 99]).toArray 5 (3, 4))).drewN u) := Below.drewN' (hb7.alloc hb7.size _) u
  clear hd7 hb7 hs6 kc
  generalize (w6.alloc (.cells (cellsB [97, 98, 99]).toArray 5 (3, 4))).drewN u = w8 at *
  go_wp2_with fail
  refine (safe_any hd8.dc).mono ?_
  rintro e w9 ⟨rfl, rfl⟩
  go_wp2
  go_ret
  exact ⟨rfl, hb8⟩

end Go.Proofs.Ythpcpecklemfcaa
