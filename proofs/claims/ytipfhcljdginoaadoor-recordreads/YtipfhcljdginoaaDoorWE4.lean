/-
  The record's own small functions over bytes: numbers written and read, highest byte first; a copy.
-/
import Derived.Test.YtipfhcljdginoaaDoorW2
import Derived.Lib.ConvBytes
import Derived.Deep.RegionHeld3
import Derived.Deep.DeepCutAuto
namespace Go.Proofs.YtipfhcljdginoaaDoor
open Go.RowKit

set_option maxHeartbeats 400000 in
theorem rAppendHigh_any (v : Value) (base : Nat) (l : List UInt8) (n size : Nat) (w : World) (ho : Own w base 5 v l) (hbase : base ≤ w.heap.size) (hsz : size ≤ 8) (hl : l.length ≤ 1000000) :
    Calls Tryd.prog 22 #[v, .int .u64 n, .int .i64 size] w fun e w' => ∃ v', e = .returned v' ∧ Own w' base 5 v' (l ++ high n size) ∧ Grew w w' v v' := by
  obtain ⟨A, c, rfl, hs, hlc, hcm⟩ := ho.forms
  go_enter Tryd.func22, Tryd.ntmps22
  go_wp2
  go_loopw [0, 7] (fun p i w' => ∃ (j : Nat) (d : List UInt8), j ≤ size ∧ i = .int .i64 ((j : Int) - 1) ∧ d ++ high n j = l ++ high n size ∧ d.length ≤ l.length + size - j ∧ Own w' base 5 p d ∧ Grew w w' (.slice A l.length c) p) (fun _ i _ => (intOf i + 1).toNat)
  case atStart => exact ⟨size, l, Nat.le_refl _, by go_num, rfl, by omega, ho, Grew.refl _ _⟩
  case round =>
    obtain ⟨j, d, hj, rfl, he, hd, hod, hgr⟩ := hrel
    have HE := Lib.hid he
    clear he
    obtain ⟨A', c', rfl, hs', hlc', hcm'⟩ := hod.forms
    rcases j with _ | j
    · go_wp2
      go_ret
      exact ⟨_, rfl, by have := HE.out; simp only [high, List.append_nil] at this; rw [← this]; exact hod, hgr⟩
    · go_wp2_with (at_builtin
                   refine wpList_append_seg _ rfl (.tmp 14) (.tmp 20) _ _ bt rfl base (.slice A' d.length c') d rfl (hod.alloc _) _ 1 1 [UInt8.ofNat (n / 2 ^ (8 * j))] rfl (Seg.one _ _ _ _ (high_byte n j)) (by omega) (by have := hgr.1.size; simp; omega) ?_
                   intro v1 w1 hown1 hg1 hat1)
      go_roundw
      case rel =>
        refine ⟨j, d ++ [UInt8.ofNat (n / 2 ^ (8 * j))], by omega, by go_num, by rw [← HE.out]; simp [high], by simp; omega, hown1, hgr.trans ?_⟩
        exact (((Grew.refl _ _).alloc _).trans (Grew.of hg1 hat1))
      case measure => simp [intOf]
set_option maxHeartbeats 400000 in
theorem rReadHigh_any (A : Option Addr) (n c : Nat) (l : List UInt8) (w : World) (ha : Seg w A n l) (hn : n ≤ 8) :
    Calls Tryd.prog 38 #[.slice A n c] w fun e w' => e = .returned (.int .u64 (rdN l)) ∧ w = w' := by
  go_enter Tryd.func38, Tryd.ntmps38
  go_wp2
  go_loop [3, 5, 8] (fun x b i => ∃ k : Nat, k ≤ n ∧ i = .int .i64 k ∧ x = .int .u64 (rdN (l.take k))) (fun _ _ i => n - (intOf i).toNat)
  case atStart => exact ⟨0, by omega, rfl, rfl⟩
  case round =>
    obtain ⟨k, hk, rfl, rfl⟩ := hrel
    by_cases hlt : k < n
    · obtain ⟨g, o, rfl, hc⟩ := ha.at_ hlt
      have hk8 : (l.take k).length ≤ 7 := by rw [List.length_take]; omega
      have hlt7 := rdN_lt' (l.take k) 7 hk8
      have hts : rdN (l.take (k + 1)) = rdN (l.take k) * 256 + (l[k]'(by rw [ha.1]; exact hlt)).toNat := by
        rw [List.take_succ_eq_append_getElem (by rw [ha.1]; exact hlt), rdN_snoc]
      have HS := Lib.hid hts
      have HL := Lib.hid hlt7
      clear hts hlt7
      go_wp2
      go_round
      case rel =>
        refine ⟨k + 1, by omega, by go_num, ?_⟩
        rw [HS.out, or_high _ _ (by have := HL.out; omega) (byte_lt _)]
      case measure => simp [intOf]; omega
    · go_wp2
      go_ret
      have e : l.take k = l := List.take_of_length_le (by rw [ha.1]; omega)
      exact ⟨by rw [e]; rfl, rfl⟩

theorem rAppendHigh_call (v : Value) (base : Nat) (l : List UInt8) (x z : Int) (w : World) (ho : Own w base 5 v l) (hbase : base ≤ w.heap.size) (hx : 0 ≤ x) (h0 : 0 ≤ z) (hz : z ≤ 8) (hl : l.length ≤ 1000000) :
    Calls Tryd.prog 22 #[v, .int .u64 x, .int .i64 z] w fun e w' => ∃ v', e = .returned v' ∧ Own w' base 5 v' (l ++ high x.toNat z.toNat) ∧ Grew w w' v v' := by
  obtain ⟨n, rfl⟩ := Int.eq_ofNat_of_zero_le hx
  obtain ⟨m, rfl⟩ := Int.eq_ofNat_of_zero_le h0
  exact rAppendHigh_any v base l n m w ho hbase (by omega) hl

set_option maxHeartbeats 400000 in
theorem clone_any (A : Option Addr) (n c : Nat) (l : List UInt8) (w : World) (ha : Seg w A n l) (hn : n ≤ 1099511627776) :
    Calls Tryd.prog 50 #[.slice A n c] w fun e w' => ∃ v, e = .returned v ∧ Own w' w.heap.size 5 v l ∧ Below w.heap.size w w' := by
  rcases A with _ | a
  · have h0 : n = 0 := by
      rcases Nat.eq_zero_or_pos n with h | h
      · exact h
      · obtain ⟨g, o, e, _⟩ := ha.2 h; cases e
    subst h0
    have hl : l = [] := List.eq_nil_of_length_eq_zero ha.1
    subst hl
    have keq := fun w => Lib.run_eql_slice_nil (P := Tryd.prog) w 28 5 none 0 c 0 0 Tryd.underlying28
    go_enter Tryd.func50, Tryd.ntmps50
    go_wp2
    go_ret
    exact ⟨_, rfl, Own.nil _ _ _, Below.refl _ _⟩
  · have keq := fun w => Lib.run_eql_slice_nil (P := Tryd.prog) w 28 5 (some a) n c 0 0 Tryd.underlying28
    go_enter Tryd.func50, Tryd.ntmps50
    go_wp2_with (at_builtin
                 refine wpList_append_seg _ rfl (.tmp 5) (.tmp 6) _ _ bt rfl w.heap.size _ [] rfl (Own.new w _ _ [] (Nat.le_refl _) (by simp [maxLen])) _ n c l rfl (ha.alloc _) (by simp; omega) (by simp) ?_
                 intro v1 w1 hown1 hg1 hat1)
    go_ret
    exact ⟨_, rfl, by simpa using hown1, below_grown ((Below.refl _ _).alloc (Nat.le_refl _) _) (Own.new w _ _ [] (Nat.le_refl _) (by simp [maxLen])) hg1 (Nat.le_refl _) (by simp)⟩


end Go.Proofs.YtipfhcljdginoaaDoor
