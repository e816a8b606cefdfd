/-
  The document's example of sums, as the laws ask it first.
-/
import Derived.Test.YtiggnmefechbaabDoorWA9
import Derived.Lib.Strings
import Derived.Lib.SmallJoins
import Derived.WideShapes
namespace Go.Proofs.YtiggnmefechbaabDoor
open Go.RowKit

theorem abc_bytes : (ByteArray.mk (sha [97, 98, 99]).toArray).size = 32 ∧ (ByteArray.mk (sha [97, 98, 99]).toArray).extract 0 4 = ⟨#[186, 120, 22, 191]⟩ := by
  refine ⟨?_, ?_⟩
  · show (sha [97, 98, 99]).toArray.size = 32
    rw [List.size_toArray, sha_length]
  · apply Go.WideShapes.bytes_inj
    rw [Lib.extract_data]
    have := sha_abc
    simp
    exact this
theorem Seg.mark (w : World) (l : List UInt8) (t : TypeId) (fr : Nat × Nat) (cs : Array Value) (g n : Nat) (hg : g = w.heap.size) (hcs : cs = (cellsB l).toArray) (hn : n = l.length) : Seg (w.alloc (.cells cs t fr)) (some ⟨g, 0, none⟩) n l := by
  subst hg hcs hn
  refine ⟨rfl, fun _ => ⟨_, _, rfl, fun j b hb => ?_⟩⟩
  rw [World.cell?_alloc_mark]
  simp [cellsB_at, hb]
theorem hex_abc : (hexB [186, 15]).toArray = #[98, 97, 48, 102] := by decide

set_option maxRecDepth 8000 in
set_option maxHeartbeats 4000000 in
theorem abc_any (w : World) (ht : Tab w) :
    Calls Tryd.prog 8 #[] w fun e w' => e = .returned (.bool true) ∧ Below w.heap.size w w' := by
  go_enter Tryd.func8, Tryd.ntmps8
  have kc := Lib.run_convert_bytes_const (P := Tryd.prog) w 22 5 #[.int .u8 97, .int .u8 98, .int .u8 99] 3 3 Tryd.underlying22 Tryd.underlying5
  go_wp2_with fail
  clear kc
  have hb0 : Below w.heap.size w (w.alloc (.cells #[.int .u8 97, .int .u8 98, .int .u8 99] 5 (3, 4))) := (Below.refl _ _).alloc (Nat.le_refl _) _
  refine (sum_any _ 3 3 [97, 98, 99] (w.alloc (.cells #[.int .u8 97, .int .u8 98, .int .u8 99] 5 (3, 4))) (Seg.mark _ _ _ _ _ _ _ rfl rfl rfl) (by omega) (Tab.below ht hb0)).mono ?_
  rintro e w1 ⟨rfl, hb1⟩
  have hb2 : Below w.heap.size w w1 := Below.next' hb0 hb1 hb0.size
  clear hb0 hb1
  obtain ⟨h1, h2⟩ := abc_bytes
  generalize ByteArray.mk (sha [97, 98, 99]).toArray = B at *
  go_wp2_with fail
  refine (hex_any ⟨#[186, 15]⟩ _ (by decide)).mono ?_
  rintro e w2 ⟨rfl, hb3⟩
  have hb4 : Below w.heap.size w w2 := Below.next' hb2 hb3 hb2.size
  clear hb2 hb3
  have h3 : (hexB (#[186, 15] : Array UInt8).toList).toArray = #[98, 97, 48, 102] := hex_abc
  rw [h3]
  go_wp2
  go_ret
  exact ⟨rfl, hb4⟩

end Go.Proofs.YtiggnmefechbaabDoor
