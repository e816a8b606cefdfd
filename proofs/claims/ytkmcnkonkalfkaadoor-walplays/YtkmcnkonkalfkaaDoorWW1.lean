/-
  The walks of the program's frames: writeLength, readLength, shortSum, Frame.
-/
import Derived.Test.YtkmcnkonkalfkaaDoorWA8
import Derived.Test.YtkmcnkonkalfkaaDoorPureW
import Derived.Test.YtkmcnkonkalfkaaDoorQG
import Derived.Lib.EndianBits
namespace Go.Proofs.YtkmcnkonkalfkaaDoor
open Go.RowKit

theorem extract4 (l : List UInt8) : (ByteArray.mk l.toArray).extract 0 4 = ⟨(l.take 4).toArray⟩ := by
  apply ByteArray.ext
  rw [ByteArray.data_extract]
  simp

theorem shaSize (l : List UInt8) : (ByteArray.mk (sha l).toArray).size = 32 := by
  show (sha l).toArray.size = 32
  rw [List.size_toArray, sha_length]
theorem or32 (a b k : Nat) (hb : b < 2 ^ k) (h : a * 2 ^ k + b < 4294967296) : bits .or .u32 ((a * 2 ^ k : Nat) : Int) (b : Int) = ((a * 2 ^ k + b : Nat) : Int) := by
  rw [u32_or_nat _ _ (by omega) (by omega)]
  congr 1
  have := Nat.shiftLeft_add_eq_or_of_lt (a := a) (i := k) (b := b) hb
  rw [Nat.shiftLeft_eq] at this
  exact this.symm

theorem Own.four (w : World) (base : Nat) (e : TypeId) (x3 x2 x1 x0 : Int) (n g : Nat) (hg : g = w.heap.size) (hb : base ≤ w.heap.size) (h3 : x3 = ((UInt8.ofNat (n / 2 ^ (8 * 3))).toNat : Int)) (h2 : x2 = ((UInt8.ofNat (n / 2 ^ (8 * 2))).toNat : Int))
    (h1 : x1 = ((UInt8.ofNat (n / 2 ^ (8 * 1))).toNat : Int)) (h0 : x0 = ((UInt8.ofNat (n / 2 ^ (8 * 0))).toNat : Int)) :
    Own (w.alloc (.cells #[.int .u8 x3, .int .u8 x2, .int .u8 x1, .int .u8 x0] e)) base e (.slice (some ⟨g, 0, none⟩) 4 4) (high n 4) := by
  subst hg h3 h2 h1 h0
  exact Own.new w base e (high n 4) hb (by rw [high_length]; simp [maxLen])

set_option maxHeartbeats 1000000 in
theorem writeLength_any (n : Nat) (w : World) (hn : n ≤ 1048576) :
    Calls Tryd.prog 36 #[.int .i64 (n : Int)] w fun e w' => ∃ v, e = .returned v ∧ Own w' w.heap.size 5 v (high n 4) ∧ Below w.heap.size w w' := by
  have HE := Lib.hid (nat_bytes4 n)
  go_enter Tryd.func36, Tryd.ntmps36
  go_wp2
  go_ret
  refine ⟨_, rfl, Own.four _ _ _ _ _ _ _ _ _ rfl (Nat.le_refl _) ?_ ?_ ?_ ?_, (Below.refl _ _).alloc (Nat.le_refl _) _⟩
  · first | exact HE.out.1 | (rw [← HE.out.1]; omega)
  · first | exact HE.out.2.1 | (rw [← HE.out.2.1]; omega)
  · first | exact HE.out.2.2.1 | (rw [← HE.out.2.2.1]; omega)
  · first | exact HE.out.2.2.2 | (rw [← HE.out.2.2.2]; omega)

theorem four_of (l : List UInt8) (h : l.length = 4) : ∃ a b c d, l = [a, b, c, d] := by
  match l, h with
  | [a, b, c, d], _ => exact ⟨a, b, c, d, rfl⟩
theorem rdN_four (a b c d : UInt8) : rdN [a, b, c, d] = ((a.toNat * 256 + b.toNat) * 256 + c.toNat) * 256 + d.toNat := by simp [rdN]

set_option maxHeartbeats 1000000 in
theorem readLength_any (A : Option Addr) (c : Nat) (l : List UInt8) (w : World) (ha : Seg w A 4 l) :
    Calls Tryd.prog 52 #[.slice A 4 c] w fun e w' => e = .returned (.int .u32 (rdN l : Int)) ∧ ∃ k, w' = w.drewN k := by
  obtain ⟨g, o, rfl, hc⟩ := ha.2 (by omega)
  obtain ⟨b0, b1, b2, b3, rfl⟩ := four_of l ha.1
  have c0 : w.cell? ⟨g, o, none⟩ = some (.int .u8 (b0.toNat : Int)) := hc 0 b0 rfl
  have c1 : w.cell? ⟨g, o + 1, none⟩ = some (.int .u8 (b1.toNat : Int)) := hc 1 b1 rfl
  have c2 : w.cell? ⟨g, o + 2, none⟩ = some (.int .u8 (b2.toNat : Int)) := hc 2 b2 rfl
  have c3 : w.cell? ⟨g, o + 3, none⟩ = some (.int .u8 (b3.toNat : Int)) := hc 3 b3 rfl
  have l0 := byte_lt b0
  have l1 := byte_lt b1
  have l2 := byte_lt b2
  have l3 := byte_lt b3
  rw [rdN_four]
  clear ha hc
  obtain ⟨y, hy⟩ : ∃ y, ((b0.toNat * 256 + b1.toNat) * 256 + b2.toNat) * 256 + b3.toNat = y := ⟨_, rfl⟩
  rw [hy]
  have HY := Lib.hid hy
  clear hy
  generalize b0.toNat = x0 at *
  generalize b1.toNat = x1 at *
  generalize b2.toNat = x2 at *
  generalize b3.toNat = x3 at *
  go_enter Tryd.func52, Tryd.ntmps52
  go_wp2_with fail
  go_quiet (fail)
  go_wp2
  go_ret
  refine ⟨?_, _, rfl⟩
  have e1 : bits .or .u32 ((x0 : Int) * 16777216) ((x1 : Int) * 65536) = (((x0 * 256 + x1) * 65536 : Nat) : Int) := by
    have h := or32 x0 (x1 * 65536) 24 (by omega) (by omega)
    rw [show (x0 : Int) * 16777216 = ((x0 * 2 ^ 24 : Nat) : Int) by omega, show (x1 : Int) * 65536 = ((x1 * 65536 : Nat) : Int) by omega, h]
    omega
  have e2 : bits .or .u32 (((x0 * 256 + x1) * 65536 : Nat) : Int) ((x2 : Int) * 256) = ((((x0 * 256 + x1) * 256 + x2) * 256 : Nat) : Int) := by
    have h := or32 (x0 * 256 + x1) (x2 * 256) 16 (by omega) (by omega)
    rw [show (((x0 * 256 + x1) * 65536 : Nat) : Int) = (((x0 * 256 + x1) * 2 ^ 16 : Nat) : Int) by omega, show (x2 : Int) * 256 = ((x2 * 256 : Nat) : Int) by omega, h]
    omega
  have e3 : bits .or .u32 ((((x0 * 256 + x1) * 256 + x2) * 256 : Nat) : Int) (x3 : Int) = ((((x0 * 256 + x1) * 256 + x2) * 256 + x3 : Nat) : Int) := by
    have h := or32 ((x0 * 256 + x1) * 256 + x2) x3 8 (by omega) (by omega)
    rw [show ((((x0 * 256 + x1) * 256 + x2) * 256 : Nat) : Int) = ((((x0 * 256 + x1) * 256 + x2) * 2 ^ 8 : Nat) : Int) by omega, h]
  rw [e1, e2, e3, HY.out]
  rfl

set_option maxHeartbeats 2000000 in
theorem shortSum_any (A : Option Addr) (c : Nat) (h : List UInt8) (B : Option Addr) (m d : Nat) (p : List UInt8) (w : World) (ha : Seg w A 4 h) (hb : Seg w B m p) (hm : m ≤ 1048576) (ht : Tab w) :
    Calls Tryd.prog 37 #[.slice A 4 c, .slice B m d] w fun e w' => e = .returned (.string ⟨(sum4 h p).toArray⟩) ∧ Below w.heap.size w w' := by
  go_enter Tryd.func37, Tryd.ntmps37
  obtain ⟨i, hi, hz0, hz1, hz2⟩ := info_parts bt.hi
  have HN := Lib.hid ha.1
  have HM := Lib.hid hb.1
  go_wp2_with (first
    | (at_make
       refine wpList_make_own _ rfl (.const (.int .i64 0)) (.tmp 8) _ rfl w.heap.size 5 i _ 1 bt.ht hi hz0 hz1 .i64 .i64 _ (4 + m) rfl rfl (by omega) (by rw [hz2]; omega) (by simp only [maxLen]; omega) (Nat.le_refl _) ?_
       intro w1 ho1 hg1
       have ho : Own w1 w.heap.size 5 (.slice (some ⟨w.heap.size, 0, none⟩) 0 (4 + m)) [] := ho1
       have hb1 : Below w.heap.size w w1 := (Below.refl _ _).grown hg1 (Nat.le_refl _) (by intro k hk; cases hk)
       clear ho1 hg1 hi hz0 hz1 hz2 i)
    | (at_builtin
       refine wpList_append_seg _ rfl (.tmp 10) (.tmp 11) _ _ bt rfl w.heap.size (.slice (some ⟨w.heap.size, 0, none⟩) 0 (4 + m)) [] rfl ho A 4 c h rfl (ha.below hb1) (by simp) hb1.size ?_
       intro v2 w2 hown2 hg2 _
       have hb2 : Below w.heap.size w w2 := below_grown hb1 ho hg2 (Nat.le_refl _) hb1.size
       clear hg2 ho)
    | (at_builtin
       refine wpList_append_seg _ rfl (.tmp 13) (.tmp 14) _ _ bt rfl w.heap.size v2 _ rfl hown2 B m d p rfl (hb.below hb2) (by rw [List.nil_append, HN.out]; omega) hb2.size ?_
       intro v3 w3 hown3 hg3 _
       have hb3 : Below w.heap.size w w3 := below_grown hb2 hown2 hg3 (Nat.le_refl _) hb2.size
       clear hg3 hown2))
  rw [List.nil_append] at hown3
  obtain ⟨A3, c3, rfl, hs3, _, _⟩ := hown3.forms
  refine (sum_any A3 _ c3 _ _ hs3 (by rw [List.length_append, HN.out, HM.out]; omega) (Tab.below ht hb3)).mono ?_
  rintro e w4 ⟨rfl, hb4⟩
  have hbw4 := Below.next' hb3 hb4 hb3.size
  have hz := shaSize (h ++ p)
  have hx := extract4 (sha (h ++ p))
  have HX := Lib.hid (show (⟨((sha (h ++ p)).take 4).toArray⟩ : ByteArray) = ⟨(sum4 h p).toArray⟩ from rfl)
  generalize ByteArray.mk (sha (h ++ p)).toArray = T at *
  clear hs3 hb4 hb3 hb2 hb1 ha hb
  go_wp2
  go_ret
  refine ⟨?_, hbw4⟩
  rw [← HX.out]
  first | rfl | (rw [hx]; done) | (simp [hx]; done)

set_option maxHeartbeats 2000000 in
theorem frame_any (A : Option Addr) (n c : Nat) (l : List UInt8) (w : World) (ha : Seg w A n l) (hn : n ≤ 1048576) (ht : Tab w) :
    Calls Tryd.prog 11 #[.slice A n c] w fun e w' => ∃ v, e = .returned v ∧ Own w' w.heap.size 5 v (frameL l) ∧ Below w.heap.size w w' := by
  have d0 : decide ((1048576 : Int) < (n : Int)) = false := decide_eq_false (by omega)
  have HLN := Lib.hid ha.1
  go_enter Tryd.func11, Tryd.ntmps11
  go_wp2_with fail
  refine (writeLength_any n _ hn).mono ?_
  rintro e w1 ⟨v1, rfl, ho1, hb1⟩
  obtain ⟨A1, c1, rfl, hs1, _, _⟩ := ho1.forms
  rw [high_length] at hs1 ⊢
  clear ho1
  have H4 := Lib.hid (high_length n 4)
  generalize hHD : high n 4 = hd at *
  have HHD := Lib.hid hHD
  clear hHD
  obtain ⟨i, hi, hz0, hz1, hz2⟩ := info_parts bt.hi
  go_wp2_with (first
    | (at_make
       refine wpList_make_own _ rfl (.const (.int .i64 0)) (.tmp 13) _ rfl w1.heap.size 5 i _ 1 bt.ht hi hz0 hz1 .i64 .i64 _ (8 + n) rfl rfl (by omega) (by rw [hz2]; omega) (by simp only [maxLen]; omega) (Nat.le_refl _) ?_
       intro w2 ho2 hg2
       have ho : Own w2 w1.heap.size 5 (.slice (some ⟨w1.heap.size, 0, none⟩) 0 (8 + n)) [] := ho2
       have hb2 : Below w1.heap.size w1 w2 := (Below.refl _ _).grown hg2 (Nat.le_refl _) (by intro k hk; cases hk)
       clear ho2 hg2 hi hz0 hz1 hz2 i)
    | (at_builtin
       refine wpList_append_seg _ rfl (.tmp 15) (.tmp 16) _ _ bt rfl w1.heap.size (.slice (some ⟨w1.heap.size, 0, none⟩) 0 (8 + n)) [] rfl ho A1 4 c1 hd rfl (hs1.below hb2) (by simp) hb2.size ?_
       intro v3 w3 hown3 hg3 _
       have hb3 : Below w1.heap.size w1 w3 := below_grown hb2 ho hg3 (Nat.le_refl _) hb2.size
       clear hg3 ho hb2))
  have hbw3 := Below.next' hb1 hb3 hb1.size
  refine (shortSum_any A1 c1 hd A n c l _ (hs1.below hb3) (ha.below hbw3) hn (Tab.below ht hbw3)).mono ?_
  rintro e w4 ⟨rfl, hb4⟩
  have hb5 : Below w1.heap.size w1 w4 := Below.next' hb3 hb4 hb3.size
  have hown4 := hown3.below hb4
  have hbw4 := Below.next' hb1 hb5 hb1.size
  have HS := Lib.hid (sum4_length hd l)
  have HFR := Lib.hid (show frameL l = hd ++ (sum4 hd l ++ l) by unfold frameL; rw [HLN.out, HHD.out])
  generalize sum4 hd l = s4 at *
  clear hb3 hown3 hb4 hbw3 hs1
  go_wp2_with (first
    | (at_builtin
       refine wpList_append_str _ rfl (.tmp 18) (.tmp 21) _ _ _ bt Tryd.underlying9 rfl w1.heap.size v3 _ rfl hown4 ⟨s4.toArray⟩ rfl (by rw [List.nil_append, H4.out]; show 4 + s4.toArray.size ≤ _; rw [List.size_toArray, HS.out]; omega) hb5.size ?_
       intro v6 w6 hown6 hg6
       have hb6 : Below w1.heap.size w1 w6 := below_grown hb5 hown4 hg6 (Nat.le_refl _) hb5.size
       clear hg6 hown4 hb5)
    | (at_builtin
       refine wpList_append_seg _ rfl (.tmp 23) (.tmp 24) _ _ bt rfl w1.heap.size v6 _ rfl hown6 A n c l rfl (ha.below (Below.next' hb1 hb6 hb1.size)) (by rw [List.nil_append, List.length_append, H4.out]; show 4 + s4.length + n ≤ _; rw [HS.out]; omega) hb6.size ?_
       intro v7 w7 hown7 hg7 _
       have hb7 : Below w1.heap.size w1 w7 := below_grown hb6 hown6 hg7 (Nat.le_refl _) hb6.size
       clear hg7 hown6 hb6))
  go_ret
  refine ⟨v7, rfl, ?_, Below.next' hb1 hb7 hb1.size⟩
  rw [HFR.out, ← List.append_assoc]
  exact hown7.mono hb1.size

end Go.Proofs.YtkmcnkonkalfkaaDoor
