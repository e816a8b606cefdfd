/-
  The document's example, as the laws of mark ask it first.
-/
import Derived.Test.YtocmpinpfhfcoaaDoorWM3
namespace Go.Proofs.YtocmpinpfhfcoaaDoor
open Go.RowKit

set_option maxRecDepth 8000 in
set_option maxHeartbeats 4000000 in
theorem long_any (w : World) (ht : Tab w) :
    Calls Tryd.prog 8 #[] w fun e w' => e = .returned (.bool true) ∧ Below w.heap.size w w' := by
  go_enter Tryd.func8, Tryd.ntmps8
  go_wp2_with fail
  refine (rsum_any none 0 0 [] _ (Seg.nil _ _) (by omega)).mono ?_
  rintro e w1 ⟨rfl, hb1⟩
  have hz := sha_size []
  have HL := Lib.hid (sha_list [])
  generalize ByteArray.mk (sha []).toArray = B at *
  go_wp2_with fail
  refine (nodeB_any B B _ (by omega) (by omega)).mono ?_
  rintro e w2 ⟨v2, rfl, ho2, hb2⟩
  have hbw2 : Below w.heap.size w w2 := Below.next' hb1 hb2 hb1.size
  obtain ⟨d, hd⟩ : ∃ d, nodeL B.data.toList B.data.toList = d := ⟨_, rfl⟩
  rw [hd] at ho2
  have hdl : d.length = 65 := by
    rw [← hd, nodeL_length, HL.out, sha_length]
  have hd0 : d[0]? = some 2 := by rw [← hd]; rfl
  clear hd HL hz hb1
  obtain ⟨A2, c2, rfl, hs2, hlc, hcm⟩ := ho2.forms
  clear ho2 hb2
  obtain ⟨g, o, rfl, hc⟩ := hs2.2 (by omega)
  have hc0 := hc 0 2 hd0
  rw [Nat.add_zero] at hc0
  rw [hdl]
  clear hc hs2 hd0
  go_wp2_with fail
  refine (empty_any _ (Tab.below ht hbw2)).mono ?_
  rintro e w3 ⟨rfl, hb3⟩
  have hbw3 : Below w.heap.size w w3 := Below.next' hbw2 hb3 hbw2.size
  clear hb3 hc0
  go_wp2_with fail
  have hb4 : Below w.heap.size w (w3.alloc (.cells #[.int .u8 0] 5)) := hbw3.alloc hbw3.size _
  refine (rsum_any _ 1 1 [0] _ (Seg.one _ _ _ 0 rfl) (by omega)).mono ?_
  rintro e w5 ⟨rfl, hb5⟩
  have hbw5 : Below w.heap.size w w5 := Below.next' hb4 hb5 hb4.size
  clear hb5 hb4
  generalize ByteArray.mk (sha [0]).toArray = B0 at *
  go_wp2
  go_ret
  exact ⟨rfl, hbw5⟩

end Go.Proofs.YtocmpinpfhfcoaaDoor
