/-
  The walks of the functions that write and read numbers, highest byte first.
-/
import Derived.Test.YtipfhcljdginoaaDoorW1
import Derived.Test.YtipfhcljdginoaaDoorPure
namespace Go.Proofs.YtipfhcljdginoaaDoor
open Go.RowKit

set_option maxHeartbeats 400000 in
theorem num_any (n size : Nat) (w : World) (hsz : size ≤ 8) :
    Calls Tryd.prog 27 #[.int .u64 n, .int .i64 size] w fun e w' => ∃ v', e = .returned v' ∧ Own w' w.heap.size 5 v' (high n size) ∧ Below w.heap.size w w' := by
  go_enter Tryd.func27, Tryd.ntmps27
  go_wp2
  go_loopw [5, 6] (fun p i w' => ∃ (k : Nat) (d : List UInt8), k ≤ size ∧ i = .int .i64 k ∧ d ++ high n (size - k) = high n size ∧ d.length ≤ k ∧ Own w' w.heap.size 5 p d ∧ Below w.heap.size w w') (fun _ i _ => size - (intOf i).toNat)
  case atStart => exact ⟨0, [], Nat.zero_le _, rfl, rfl, by simp, Own.nil _ _ _, Below.refl _ _⟩
  case round =>
    obtain ⟨k, d, hk, rfl, he, hd, hod, hbw⟩ := hrel
    have HE := Lib.hid he
    clear he
    obtain ⟨A', c', rfl, hs', hlc', hcm'⟩ := hod.forms
    by_cases hlt : k < size
    · have es : size - k = (size - 1 - k) + 1 := by omega
      have ES := Lib.hid es
      clear es
      go_wp2_with (at_builtin
                   refine wpList_append_seg _ rfl (.tmp 12) (.tmp 21) _ _ bt rfl w.heap.size (.slice A' d.length c') d rfl (hod.alloc _) _ 1 1 [UInt8.ofNat (n / 2 ^ (8 * (size - 1 - k)))] rfl (Seg.one _ _ _ _ (high_byte n (size - 1 - k))) (by omega) (by have := hbw.size; simp; omega) ?_
                   intro v1 w1 hown1 hg1 hat1)
      go_roundw
      case rel =>
        refine ⟨k + 1, d ++ [UInt8.ofNat (n / 2 ^ (8 * (size - 1 - k)))], by omega, by go_num, ?_, by simp; omega, hown1, ?_⟩
        · rw [← HE.out, ES.out, show size - (k + 1) = size - 1 - k from by omega]
          simp [high]
        · exact below_grown (hbw.alloc hbw.size _) (hod.alloc _) hg1 (Nat.le_refl _) (by have := hbw.size; simp; omega)
      case measure => simp [intOf]; omega
    · go_wp2
      go_ret
      exact ⟨_, rfl, by have := HE.out; rw [Nat.sub_eq_zero_of_le (by omega)] at this; simp only [high, List.append_nil] at this; rw [← this]; exact hod, hbw⟩

set_option maxHeartbeats 400000 in
theorem read_any (A : Option Addr) (n c : Nat) (l : List UInt8) (w : World) (ha : Seg w A n l) (hn : n ≤ 8) :
    Calls Tryd.prog 36 #[.slice A n c] w fun e w' => e = .returned (.int .u64 (rdN l)) ∧ w = w' := by
  go_enter Tryd.func36, Tryd.ntmps36
  go_wp2
  go_loop [3, 4] (fun x i => ∃ k : Nat, k ≤ n ∧ i = .int .i64 k ∧ x = .int .u64 (rdN (l.take k))) (fun _ i => n - (intOf i).toNat)
  case atStart => exact ⟨0, by omega, rfl, rfl⟩
  case round =>
    obtain ⟨k, hk, rfl, rfl⟩ := hrel
    by_cases hlt : k < n
    · obtain ⟨g, o, rfl, hc⟩ := ha.at_ hlt
      have hk8 : (l.take k).length ≤ 7 := by rw [List.length_take]; omega
      have hlt7 := rdN_lt' (l.take k) 7 hk8
      have hts : rdN (l.take (k + 1)) = rdN (l.take k) * 256 + (l[k]'(by rw [ha.1]; exact hlt)).toNat := by
        rw [List.take_succ_eq_append_getElem (by rw [ha.1]; exact hlt), rdN_snoc]
      have HS := Lib.hid hts
      have HL := Lib.hid hlt7
      clear hts hlt7
      go_wp2
      go_round
      case rel =>
        refine ⟨k + 1, by omega, by go_num, ?_⟩
        rw [HS.out, sum_high _ _ (by have := HL.out; omega) (byte_lt _)]
      case measure => simp [intOf]; omega
    · go_wp2
      go_ret
      have e : l.take k = l := List.take_of_length_le (by rw [ha.1]; omega)
      exact ⟨by rw [e]; rfl, rfl⟩

theorem num_call (x z : Int) (w : World) (hx : 0 ≤ x) (h0 : 0 ≤ z) (hz : z ≤ 8) :
    Calls Tryd.prog 27 #[.int .u64 x, .int .i64 z] w fun e w' => ∃ v', e = .returned v' ∧ Own w' w.heap.size 5 v' (high x.toNat z.toNat) ∧ Below w.heap.size w w' := by
  obtain ⟨n, rfl⟩ := Int.eq_ofNat_of_zero_le hx
  obtain ⟨m, rfl⟩ := Int.eq_ofNat_of_zero_le h0
  exact num_any n m w (by omega)

end Go.Proofs.YtipfhcljdginoaaDoor
