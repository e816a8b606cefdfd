/-
  The walks of Bit: the program's and the document's.
-/
import Derived.Test.YtiggnmefechbaabDoorWL
namespace Go.Proofs.YtiggnmefechbaabDoor
open Go.RowKit

theorem i64_and1 (n : Nat) (h : n < 256) : bits .and .i64 (n : Int) 1 = ((n % 2 : Nat) : Int) := by
  show IntKind.i64.wrap (((BitVec.ofInt 64 (n : Int) &&& BitVec.ofInt 64 1).toNat : Nat) : Int) = _
  rw [BitVec.toNat_and, ofInt_u64 n (by omega), show (BitVec.ofInt 64 1).toNat = 1 from by decide, nat_mask1]
  exact IntWalk.i64_in _ (by omega)
/-- A text's i-th bit. -/
def bitF (s : ByteArray) (i : Int) : Nat := if i < 0 then 0 else (s.data.toList.getD (i.toNat / 8) 0).toNat / 2 ^ (7 - i.toNat % 8) % 2

set_option maxRecDepth 8000 in
set_option maxHeartbeats 4000000 in
theorem bit_any (s : ByteArray) (i : Int) (w : World) (hs : s.size ≤ 1000000) (hi0 : -9223372036854775808 ≤ i) (hi1 : i ≤ 9223372036854775807) :
    Calls Tryd.prog 11 #[.string s, .int .i64 i] w fun e w' => e = .returned (.int .i64 (bitF s i : Int)) ∧ w = w' := by
  have hsl : s.data.toList.length = s.size := by simp
  by_cases hneg : i < 0
  · have HB : Hid (bitF s i = 0) := Lib.hid (by unfold bitF; rw [if_pos hneg])
    have t1 : decide (i < 0) = true := decide_eq_true hneg
    clear hsl hi0 hi1
    go_enter Tryd.func11, Tryd.ntmps11
    go_wp2
    go_ret
    rw [HB.out]
    exact ⟨rfl, rfl⟩
  · obtain ⟨m, rfl⟩ := Int.eq_ofNat_of_zero_le (show 0 ≤ i by omega)
    have HB : Hid (bitF s (m : Int) = (s.data.toList.getD (m / 8) 0).toNat / 2 ^ (7 - m % 8) % 2) := Lib.hid (by unfold bitF; rw [if_neg hneg]; rfl)
    have t1 : decide ((m : Int) < 0) = false := decide_eq_false (by omega)
    obtain ⟨q, hq0⟩ : ∃ q, m / 8 = q := ⟨_, rfl⟩
    obtain ⟨r, hr0⟩ : ∃ r, m % 8 = r := ⟨_, rfl⟩
    have hr8 : r < 8 := by omega
    have hq : (m : Int) / 8 = (q : Int) := by omega
    have hr : (m : Int) % 8 = (r : Int) := by omega
    have hw : wrap64 (q : Int) = (q : Int) := IntWalk.wrap64_in _ (by omega)
    by_cases hin : q < s.size
    · have t2 : decide ((s.size : Int) ≤ (q : Int)) = false := decide_eq_false (by omega)
      have hb : s.data.toList.getD q 0 = s[q] := by
        rw [List.getD_eq_getElem?_getD, List.getElem?_eq_getElem (by omega)]
        rfl
      rw [hq0, hr0, hb] at HB
      clear hb hq0 hr0 hsl hi0 hi1 hneg
      go_enter Tryd.func11, Tryd.ntmps11
      go_wp2
      go_ret
      rw [HB.out]
      have hlt : s[q].toNat / 2 ^ (7 - r) < 256 := Nat.lt_of_le_of_lt (Nat.div_le_self _ _) (byte_lt _)
      have e1 : ((s[q].toNat : Nat) : Int) / 2 ^ (7 - r) = ((s[q].toNat / 2 ^ (7 - r) : Nat) : Int) := by
        rw [Int.natCast_ediv, Int.natCast_pow]
        rfl
      refine ⟨?_, rfl⟩
      show Ending.returned (Value.int .i64 (bits .and .i64 (wrap64 (((s[q].toNat : Nat) : Int) / 2 ^ (7 - r))) 1)) = _
      rw [e1]
      generalize s[q].toNat / 2 ^ (7 - r) = y at *
      rw [IntWalk.wrap64_in _ (by omega), i64_and1 _ hlt]
    · have t2 : decide ((s.size : Int) ≤ (q : Int)) = true := decide_eq_true (by omega)
      have hz : (s.data.toList.getD q 0) = 0 := by
        rw [List.getD_eq_getElem?_getD, List.getElem?_eq_none (by omega)]
        rfl
      rw [hq0, hr0, hz] at HB
      have H0 : Hid (bitF s (m : Int) = 0) := Lib.hid (by rw [HB.out]; simp)
      clear hz hq0 hr0 hsl HB hi0 hi1
      go_enter Tryd.func11, Tryd.ntmps11
      go_wp2
      go_ret
      rw [H0.out]
      exact ⟨rfl, rfl⟩

set_option maxRecDepth 8000 in
set_option maxHeartbeats 4000000 in
theorem rbit_any (s : ByteArray) (i : Int) (w : World) (hs : s.size ≤ 1000000) (hi0 : -9223372036854775808 ≤ i) (hi1 : i ≤ 9223372036854775807) :
    Calls Tryd.prog 12 #[.string s, .int .i64 i] w fun e w' => e = .returned (.int .i64 (bitF s i : Int)) ∧ w = w' := by
  have hsl : s.data.toList.length = s.size := by simp
  by_cases hneg : i < 0
  · have HB : Hid (bitF s i = 0) := Lib.hid (by unfold bitF; rw [if_pos hneg])
    have t1 : decide (i < 0) = true := decide_eq_true hneg
    clear hsl hi0 hi1
    go_enter Tryd.func12, Tryd.ntmps12
    go_wp2
    go_ret
    rw [HB.out]
    exact ⟨rfl, rfl⟩
  · obtain ⟨m, rfl⟩ := Int.eq_ofNat_of_zero_le (show 0 ≤ i by omega)
    have HB : Hid (bitF s (m : Int) = (s.data.toList.getD (m / 8) 0).toNat / 2 ^ (7 - m % 8) % 2) := Lib.hid (by unfold bitF; rw [if_neg hneg]; rfl)
    have t1 : decide ((m : Int) < 0) = false := decide_eq_false (by omega)
    obtain ⟨q, hq0⟩ : ∃ q, m / 8 = q := ⟨_, rfl⟩
    obtain ⟨r, hr0⟩ : ∃ r, m % 8 = r := ⟨_, rfl⟩
    have hr8 : r < 8 := by omega
    have hq : (m : Int) / 8 = (q : Int) := by omega
    have hr : (m : Int) % 8 = (r : Int) := by omega
    have hw : wrap64 (q : Int) = (q : Int) := IntWalk.wrap64_in _ (by omega)
    by_cases hin : q < s.size
    · have t2 : decide (8 * (s.size : Int) ≤ (m : Int)) = false := decide_eq_false (by omega)
      have hb : s.data.toList.getD q 0 = s[q] := by
        rw [List.getD_eq_getElem?_getD, List.getElem?_eq_getElem (by omega)]
        rfl
      rw [hq0, hr0, hb] at HB
      clear hb hq0 hr0 hsl hi0 hi1 hneg
      go_enter Tryd.func12, Tryd.ntmps12
      go_wp2
      go_ret
      rw [HB.out]
      have hlt : s[q].toNat / 2 ^ (7 - r) < 256 := Nat.lt_of_le_of_lt (Nat.div_le_self _ _) (byte_lt _)
      have e1 : ((s[q].toNat : Nat) : Int) / 2 ^ (7 - r) = ((s[q].toNat / 2 ^ (7 - r) : Nat) : Int) := by
        rw [Int.natCast_ediv, Int.natCast_pow]
        rfl
      refine ⟨?_, rfl⟩
      show Ending.returned (Value.int .i64 ((wrap64 ((s[q].toNat : Nat) : Int) / 2 ^ (7 - r)).tmod 2)) = _
      rw [IntWalk.wrap64_in _ (by have := byte_lt s[q]; omega), e1]
      generalize s[q].toNat / 2 ^ (7 - r) = y at *
      rw [Int.tmod_eq_emod_of_nonneg (by omega)]
      congr 2
    · have t2 : decide (8 * (s.size : Int) ≤ (m : Int)) = true := decide_eq_true (by omega)
      have hz : (s.data.toList.getD q 0) = 0 := by
        rw [List.getD_eq_getElem?_getD, List.getElem?_eq_none (by omega)]
        rfl
      rw [hq0, hr0, hz] at HB
      have H0 : Hid (bitF s (m : Int) = 0) := Lib.hid (by rw [HB.out]; simp)
      clear hz hq0 hr0 hsl HB hi0 hi1
      go_enter Tryd.func12, Tryd.ntmps12
      go_wp2
      go_ret
      rw [H0.out]
      exact ⟨rfl, rfl⟩

theorem dig_extract (q : Nat) (h : q < 16) : (⟨#[48, 49, 50, 51, 52, 53, 54, 55, 56, 57, 97, 98, 99, 100, 101, 102]⟩ : ByteArray).extract q (q + 1) = ⟨#[dig q]⟩ := by
  match q, h with
  | 0, _ | 1, _ | 2, _ | 3, _ | 4, _ | 5, _ | 6, _ | 7, _ | 8, _ | 9, _ | 10, _ | 11, _ | 12, _ | 13, _ | 14, _ | 15, _ => decide
  | n + 16, h => exact absurd h (by omega)

set_option maxRecDepth 8000 in
set_option maxHeartbeats 4000000 in
theorem rhex_any (s : ByteArray) (w : World) (hs : s.size ≤ 1000000) :
    Calls Tryd.prog 14 #[.string s] w fun e w' => e = .returned (.string ⟨(hexB s.data.toList).toArray⟩) ∧ ∃ k, w' = w.drewN k := by
  go_enter Tryd.func14, Tryd.ntmps14
  go_wp2_with fail
  go_loopw [3, 4] (fun p i w' => ∃ (k : Nat) (t : ByteArray), k ≤ s.size ∧ i = .int .i64 k ∧ p = .string t ∧ t = ⟨(hexB (s.data.toList.take k)).toArray⟩ ∧ ∃ q, w' = w.drewN q) (fun _ i _ => s.size - (intOf i).toNat)
  case atStart => exact ⟨0, ⟨#[]⟩, by omega, rfl, rfl, rfl, 0, rfl⟩
  case round =>
    obtain ⟨k, t, hk, rfl, rfl, ht, q9, rfl⟩ := hrel
    have HT := Lib.hid ht
    clear ht
    by_cases hlt : k < s.size
    · have HX := Lib.hid (show s.data.toList.take (k + 1) = s.data.toList.take k ++ [s[k]] from List.take_succ_eq_append_getElem (by simpa using hlt))
      have t1 : decide ((k : Int) < (s.size : Int)) = true := decide_eq_true (by omega)
      have hb8 := byte_lt s[k]
      obtain ⟨q, hq0⟩ : ∃ q, s[k].toNat / 16 = q := ⟨_, rfl⟩
      obtain ⟨r, hr0⟩ : ∃ r, s[k].toNat % 16 = r := ⟨_, rfl⟩
      have hq : (s[k].toNat : Int) / 16 = (q : Int) := by omega
      have hr : (s[k].toNat : Int).tmod 16 = (r : Int) := by rw [Int.tmod_eq_emod_of_nonneg (by omega)]; omega
      have hq16 : q < 16 := by omega
      have hr16 : r < 16 := by omega
      have HQ := Lib.hid hq0
      have HR := Lib.hid hr0
      clear hq0 hr0
      have wq : IntKind.u8.wrap (q : Int) = (q : Int) := IntWalk.u8_in _ (by omega)
      have wq1 : IntKind.u8.wrap ((q : Int) + 1) = (q : Int) + 1 := IntWalk.u8_in _ (by omega)
      have wr0 : IntKind.u8.wrap (r : Int) = (r : Int) := IntWalk.u8_in _ (by omega)
      have wr1 : IntKind.u8.wrap ((r : Int) + 1) = (r : Int) + 1 := IntWalk.u8_in _ (by omega)
      have q1 : (q : Int) + 1 ≤ 16 := by omega
      have r1 : (r : Int) + 1 ≤ 16 := by omega
      have q2 : (q : Int) ≤ (q : Int) + 1 := by omega
      have r2 : (r : Int) ≤ (r : Int) + 1 := by omega
      have x1 := dig_extract q hq16
      have x2 := dig_extract r hr16
      have HT2 : Hid (t.size ≤ 2000000) := by
        show t.size ≤ 2000000
        rw [HT.out]
        show (hexB (s.data.toList.take k)).toArray.size ≤ 2000000
        rw [List.size_toArray, hexB_len, List.length_take]
        omega
      obtain ⟨d1, hd1, hs1⟩ : ∃ d : ByteArray, (⟨#[dig q]⟩ : ByteArray) = d ∧ d.size = 1 := ⟨_, rfl, rfl⟩
      obtain ⟨d2, hd2, hs2⟩ : ∃ d : ByteArray, (⟨#[dig r]⟩ : ByteArray) = d ∧ d.size = 1 := ⟨_, rfl, rfl⟩
      obtain ⟨d3, hd3, hs3⟩ : ∃ d : ByteArray, d1 ++ d2 = d ∧ d.size = 2 := ⟨_, rfl, by rw [ByteArray.size_append, hs1, hs2]⟩
      rw [hd1] at x1
      rw [hd2] at x2
      have a1 : ∀ W, (Op.stringOp .add d1 d2).run Tryd.prog W = .ok (.string d3) W := fun W => by rw [← hd3]; exact run_string_add_sum (P := Tryd.prog) W d1 d2 (by omega)
      have a2 : ∀ W, (Op.stringOp .add t d3).run Tryd.prog W = .ok (.string (t ++ d3)) W := fun W => run_string_add_sum (P := Tryd.prog) W t d3 (by have := HT2.out; omega)
      have H1 := Lib.hid hd1
      have H2 := Lib.hid hd2
      have H3 := Lib.hid hd3
      have b1 : d1.size + d2.size ≤ 9223372036854775807 := by omega
      have b2 : t.size + d3.size ≤ 9223372036854775807 := by have := HT2.out; omega
      clear hd1 hd2 hd3 hs1 hs2 hs3
      go_wp2_with fail
      go_quiet (fail)
      go_wp2
      go_roundw
      case rel =>
        refine ⟨k + 1, t ++ d3, by omega, by go_num, rfl, ?_, _, rfl⟩
        rw [HX.out, hexB_snoc, hex1, HQ.out, HR.out, HT.out, ← H3.out, ← H1.out, ← H2.out]
        apply Go.WideShapes.bytes_inj
        simp [ByteArray.data_append]
      case measure => simp [intOf]; omega
    · have HK := Lib.hid (show s.data.toList.take k = s.data.toList from List.take_of_length_le (by simp; omega))
      have t1 : decide ((k : Int) < (s.size : Int)) = false := decide_eq_false (by omega)
      go_wp2
      go_ret
      refine ⟨?_, _, rfl⟩
      rw [← HK.out, ← HT.out]
      rfl

end Go.Proofs.YtiggnmefechbaabDoor
