/-
  The walks of the program's Empty, Leaf, Node, Link, and of the document's answers for them; the example that each law asks first.
-/
import Derived.Test.YtaanaoimnecenaaDoorWM1
import Derived.Test.YtaanaoimnecenaaDoorWD2
import Derived.Deep.RegionWith
namespace Go.Proofs.YtaanaoimnecenaaDoor
open Go.RowKit

theorem sha_size (l : List UInt8) : (ByteArray.mk (sha l).toArray).size = 32 := by
  show (sha l).toArray.size = 32
  rw [List.size_toArray, sha_length]
theorem sha_list (l : List UInt8) : (ByteArray.mk (sha l).toArray).data.toList = sha l := by simp

set_option maxHeartbeats 1000000 in
theorem empty_any (w : World) (ht : Tab w) :
    Calls Tryd.prog 59 #[] w fun e w' => e = .returned (.string ⟨(sha [0]).toArray⟩) ∧ Below w.heap.size w w' := by
  go_enter Tryd.func59, Tryd.ntmps59
  go_wp2_with fail
  have hb0 : Below w.heap.size w (w.alloc (.cells #[.int .u8 0] 5)) := (Below.refl _ _).alloc (Nat.le_refl _) _
  refine (sum_any _ _ _ [0] _ (Seg.one _ _ _ 0 rfl) (by omega) (Tab.below ht hb0)).mono ?_
  rintro e w1 ⟨rfl, hb1⟩
  go_wp2
  go_ret
  exact ⟨rfl, Below.next' hb0 hb1 hb0.size⟩

set_option maxHeartbeats 1000000 in
theorem rempty_any (w : World) :
    Calls Tryd.prog 60 #[] w fun e w' => e = .returned (.string ⟨(sha [0]).toArray⟩) ∧ Below w.heap.size w w' := by
  go_enter Tryd.func60, Tryd.ntmps60
  go_wp2_with fail
  have hb0 : Below w.heap.size w (w.alloc (.cells #[.int .u8 0] 5)) := (Below.refl _ _).alloc (Nat.le_refl _) _
  refine (rsum_any _ _ _ [0] _ (Seg.one _ _ _ 0 rfl) (by omega)).mono ?_
  rintro e w1 ⟨rfl, hb1⟩
  go_wp2
  go_ret
  exact ⟨rfl, Below.next' hb0 hb1 hb0.size⟩

set_option maxHeartbeats 1000000 in
theorem leaf_any (k : ByteArray) (A : Option Addr) (n c : Nat) (l : List UInt8) (w : World) (ha : Seg w A n l) (hk : k.size ≤ 100000000) (hn : n ≤ 100000000) (ht : Tab w) :
    Calls Tryd.prog 88 #[.string k, .slice A n c] w fun e w' => e = .returned (.string ⟨(sha (leafL k.data.toList l)).toArray⟩) ∧ Below w.heap.size w w' := by
  go_enter Tryd.func88, Tryd.ntmps88
  go_wp2_with fail
  refine (leafB_any k A n c l _ ha (by omega) (by omega)).mono ?_
  rintro e w1 ⟨v1, rfl, ho1, hb1⟩
  obtain ⟨A1, c1, rfl, hs1, hlc1, hcm1⟩ := ho1.forms
  clear ho1
  have hl : (leafL k.data.toList l).length ≤ 1099511627776 := by
    rw [leafL_length, ha.1]
    have : k.data.toList.length = k.size := by simp
    omega
  go_wp2_with fail
  refine (sum_any A1 _ c1 _ _ hs1 hl (Tab.below ht hb1)).mono ?_
  rintro e w2 ⟨rfl, hb2⟩
  go_wp2
  go_ret
  exact ⟨rfl, Below.next' hb1 hb2 hb1.size⟩

set_option maxHeartbeats 1000000 in
theorem node_any (x y : ByteArray) (w : World) (hx : x.size ≤ 100000000) (hy : y.size ≤ 100000000) (ht : Tab w) :
    Calls Tryd.prog 108 #[.string x, .string y] w fun e w' => e = .returned (.string ⟨(sha (nodeL x.data.toList y.data.toList)).toArray⟩) ∧ Below w.heap.size w w' := by
  go_enter Tryd.func108, Tryd.ntmps108
  go_wp2_with fail
  refine (nodeB_any x y _ hx hy).mono ?_
  rintro e w1 ⟨v1, rfl, ho1, hb1⟩
  obtain ⟨A1, c1, rfl, hs1, hlc1, hcm1⟩ := ho1.forms
  clear ho1
  have hl : (nodeL x.data.toList y.data.toList).length ≤ 1099511627776 := by
    rw [nodeL_length]
    have h1 : x.data.toList.length = x.size := by simp
    have h2 : y.data.toList.length = y.size := by simp
    omega
  go_wp2_with fail
  refine (sum_any A1 _ c1 _ _ hs1 hl (Tab.below ht hb1)).mono ?_
  rintro e w2 ⟨rfl, hb2⟩
  go_wp2
  go_ret
  exact ⟨rfl, Below.next' hb1 hb2 hb1.size⟩

end Go.Proofs.YtaanaoimnecenaaDoor
