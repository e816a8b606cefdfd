/-
  What is asked of no tree: Get, Del, Halves, Leaf, Len, Digest, Keys; slices.Sort of no texts.
-/
import Derived.Test.YtaanaoimnecenaaDoorTR1
namespace Go.Proofs.YtaanaoimnecenaaDoor
open Go.RowKit

set_option maxHeartbeats 2000000 in
theorem find_nil (k s : ByteArray) (w : World) : Calls Tryd.prog 56 #[.pointer none, .string k, .string s] w fun e w' => e = .returned (.pointer none) ∧ w' = w := by
  go_enter Tryd.func56, Tryd.ntmps56
  go_wp2_with fail
  go_loopw [0] (fun p w' => p = .pointer none ∧ w' = w) (fun _ _ => 0)
  case atStart => exact ⟨rfl, rfl⟩
  case round =>
    obtain ⟨rfl, rfl⟩ := hrel
    go_wp2_with fail
    refine (nlen_nil _).mono ?_
    rintro e w1 ⟨rfl, rfl⟩
    go_wp2
    go_ret
    exact ⟨rfl, rfl⟩
theorem get_nil (k : ByteArray) (w : World) (hk : k.size ≤ 1000) (ht : Tab w) : Calls Tryd.prog 19 #[.pointer none, .string k] w fun e w' => e = .returned (.tuple #[.slice none 0 0, .bool false]) ∧ Below w.heap.size w w' := by
  go_enter Tryd.func19, Tryd.ntmps19
  go_wp2_with fail
  refine (keySum_any k _ hk ht).mono ?_
  rintro e w1 ⟨rfl, hb1⟩
  generalize (⟨(sha k.data.toList).toArray⟩ : ByteArray) = T at *
  go_wp2_with fail
  refine (find_nil k T _).mono ?_
  rintro e w2 ⟨rfl, rfl⟩
  go_wp2
  go_ret2
  exact ⟨rfl, hb1⟩
theorem del_nil (k : ByteArray) (w : World) (hk : k.size ≤ 1000) (ht : Tab w) : Calls Tryd.prog 29 #[.pointer none, .string k] w fun e w' => e = .returned (.pointer none) ∧ Below w.heap.size w w' := by
  go_enter Tryd.func29, Tryd.ntmps29
  go_wp2_with fail
  refine (keySum_any k _ hk ht).mono ?_
  rintro e w1 ⟨rfl, hb1⟩
  generalize (⟨(sha k.data.toList).toArray⟩ : ByteArray) = T at *
  go_wp2_with fail
  refine (find_nil k T _).mono ?_
  rintro e w2 ⟨rfl, rfl⟩
  go_wp2
  go_ret
  exact ⟨rfl, hb1⟩
theorem halves_nil (w : World) : Calls Tryd.prog 32 #[.pointer none] w fun e w' => e = .returned (.tuple #[.pointer none, .pointer none, .bool false]) ∧ w' = w := by
  go_enter Tryd.func32, Tryd.ntmps32
  go_wp2_with fail
  refine (nlen_nil _).mono ?_
  rintro e w1 ⟨rfl, rfl⟩
  go_wp2
  go_ret3
  exact ⟨rfl, rfl⟩
theorem leaf_nil (w : World) : Calls Tryd.prog 33 #[.pointer none] w fun e w' => e = .returned (.tuple #[.string ⟨#[]⟩, .slice none 0 0, .bool false]) ∧ w' = w := by
  go_enter Tryd.func33, Tryd.ntmps33
  go_wp2_with fail
  refine (nlen_nil _).mono ?_
  rintro e w1 ⟨rfl, rfl⟩
  go_wp2
  go_ret3
  exact ⟨rfl, rfl⟩
theorem ndigest_nil (w : World) (ht : Tab w) : Calls Tryd.prog 22 #[.pointer none] w fun e w' => e = .returned (.string ⟨(sha [0]).toArray⟩) ∧ Below w.heap.size w w' := by
  have he := empty_any w ht
  generalize (⟨(sha [0]).toArray⟩ : ByteArray) = T at *
  go_enter Tryd.func22, Tryd.ntmps22
  go_wp2_with fail
  refine he.mono ?_
  rintro e w1 ⟨rfl, hb1⟩
  go_wp2
  go_ret
  exact ⟨rfl, hb1⟩
theorem gather_nil (v : Value) (w : World) : Calls Tryd.prog 61 #[.pointer none, v] w fun e w' => e = .returned v ∧ w' = w := by
  go_enter Tryd.func61, Tryd.ntmps61
  go_wp2_with fail
  refine (nlen_nil _).mono ?_
  rintro e w1 ⟨rfl, rfl⟩
  go_wp2
  go_ret
  exact ⟨rfl, rfl⟩

set_option maxRecDepth 8000 in
set_option maxHeartbeats 2000000 in
theorem len64_zero (w : World) : Calls Tryd.prog 107 #[.int .u64 0] w fun e w' => e = .returned (.int .i64 0) ∧ w' = w := by
  go_enter Tryd.func107, Tryd.ntmps107
  go_wp2
  go_ret
  exact ⟨by kernel_rfl, rfl⟩
theorem bitsLen_zero (w : World) : Calls Tryd.prog 85 #[.int .u64 0] w fun e w' => e = .returned (.int .i64 0) ∧ w' = w := by
  go_enter Tryd.func85, Tryd.ntmps85
  go_wp2_with fail
  refine (len64_zero _).mono ?_
  rintro e w1 ⟨rfl, rfl⟩
  go_wp2
  go_ret
  exact ⟨rfl, rfl⟩
theorem insertion_none (v : Value) (w : World) : Calls Tryd.prog 97 #[v, .int .i64 0, .int .i64 0] w fun e w' => e = .returned (.tuple #[]) ∧ w' = w := by
  go_enter Tryd.func97, Tryd.ntmps97
  go_wp2_with fail
  go_loopw [6, 7] (fun p _ w' => p = .int .i64 1 ∧ w' = w) (fun _ _ _ => 0)
  case atStart => exact ⟨rfl, rfl⟩
  case round =>
    obtain ⟨rfl, rfl⟩ := hrel
    go_wp2
    go_end0
    exact ⟨rfl, rfl⟩
set_option maxHeartbeats 2000000 in
theorem pdq_none (v : Value) (w : World) : Calls Tryd.prog 84 #[v, .int .i64 0, .int .i64 0, .int .i64 0] w fun e w' => e = .returned (.tuple #[]) ∧ w' = w := by
  go_enter Tryd.func84, Tryd.ntmps84
  go_wp2_with fail
  go_loopw [1, 2, 3, 8, 9, 10, 11, 12] (fun a b c _ _ _ _ _ w' => a = .int .i64 0 ∧ b = .int .i64 0 ∧ c = .int .i64 0 ∧ w' = w) (fun _ _ _ _ _ _ _ _ _ => 0)
  case atStart => exact ⟨rfl, rfl, rfl, rfl⟩
  case round =>
    obtain ⟨rfl, rfl, rfl, rfl⟩ := hrel
    go_wp2_with fail
    refine (insertion_none v _).mono ?_
    rintro e w1 ⟨rfl, rfl⟩
    go_wp2
    refine bodyPost_ret (results_none rfl _ _ _) rfl ?_
    exact ⟨rfl, rfl⟩
theorem sort_none (A : Option Addr) (c : Nat) (w : World) : Calls Tryd.prog 62 #[.slice A 0 c] w fun e w' => e = .returned (.tuple #[]) ∧ w' = w := by
  go_enter Tryd.func62, Tryd.ntmps62
  go_wp2_with fail
  refine (bitsLen_zero _).mono ?_
  rintro e w1 ⟨rfl, rfl⟩
  go_wp2_with fail
  refine (pdq_none _ _).mono ?_
  rintro e w2 ⟨rfl, rfl⟩
  go_wp2
  go_end0
  exact ⟨rfl, rfl⟩
theorem strInfo : (Tryd.prog.info? 9).map (fun i => (i.zero, i.size, i.bytes)) = some (some (.string ⟨#[]⟩), 1, 16) := by kernel_rfl
set_option maxRecDepth 8000 in
set_option maxHeartbeats 2000000 in
theorem keys_nil (w : World) : Calls Tryd.prog 26 #[.pointer none] w fun e w' => (∃ A c, e = .returned (.slice A 0 c)) ∧ Below w.heap.size w w' := by
  go_enter Tryd.func26, Tryd.ntmps26
  go_wp2_with fail
  refine (nlen_nil _).mono ?_
  rintro e w1 ⟨rfl, rfl⟩
  obtain ⟨i, hi, hz0, hz1, hz2⟩ := info_parts strInfo
  go_wp2_with (at_make
               refine wpList_make_own _ rfl (.const (.int .i64 0)) (.tmp 6) _ rfl w1.heap.size 9 i _ 1 Tryd.underlying38 hi hz0 hz1 .i64 .i64 0 0 rfl rfl (by omega) (by rw [hz2]; omega) (by simp only [maxLen]; omega) (Nat.le_refl _) ?_
               intro w2 ho2 hg2
               have hb2 : Below w1.heap.size w1 w2 := (Below.refl _ _).grown hg2 (Nat.le_refl _) (by intro k hk; cases hk)
               clear ho2 hg2 hi hz0 hz1 hz2 i)
  refine (gather_nil _ _).mono ?_
  rintro e w3 ⟨rfl, rfl⟩
  go_wp2_with fail
  refine (sort_none _ _ _).mono ?_
  rintro e w4 ⟨rfl, rfl⟩
  go_wp2
  go_ret
  exact ⟨⟨_, _, rfl⟩, hb2⟩

end Go.Proofs.YtaanaoimnecenaaDoor
