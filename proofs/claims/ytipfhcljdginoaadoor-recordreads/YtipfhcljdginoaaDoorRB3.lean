/-
  The laws' example of a batch.
-/
import Derived.Test.YtipfhcljdginoaaDoorRB2
namespace Go.Proofs.YtipfhcljdginoaaDoor
open Go.RowKit

theorem SegW.one (w : World) (key : ByteArray) (B : Option Addr) (m c : Nat) (row : List UInt8) (gone : Bool) (t : TypeId) (o : Obj) (ho : o = .cells #[.string key, .slice B m c, .bool gone] t) (hs : Seg w B m row) (hm : m ≤ c) (hc : c ≤ maxLen) :
    SegW (w.alloc o) (some ⟨w.heap.size, 0, none⟩) 1 [⟨key, row, gone⟩] := by
  subst ho
  refine ⟨([⟨key, B, m, c, gone⟩] : List WrS), SegG.newAt w ([⟨key, B, m, c, gone⟩] : List WrS) _ _ _ 1 rfl rfl rfl, rfl, fun i s x h1 h2 => ?_⟩
  have hi : i = 0 := by
    have := (List.getElem?_eq_some_iff.1 h1).1
    simp at this
    omega
  subst hi
  simp at h1 h2
  subst h1 h2
  exact ⟨rfl, hs.alloc _, hm, hc, rfl⟩
theorem rightB_one (key : ByteArray) (row : List UInt8) : rightB 1 [⟨key, row, false⟩] = (decide (1 ≤ key.size) && (decide (key.size ≤ 4000) && decide (row.length ≤ 4000))) := by
  unfold rightB rightL rightL
  rw [sle_nil]
  simp only [szW]
  by_cases h1 : 1 ≤ key.size
  · have h2 : ¬ key.size < 1 := by omega
    by_cases h3 : key.size ≤ 4000 <;> by_cases h4 : row.length ≤ 4000 <;> simp [h1, h2, h3, h4]
  · have h2 : key.size < 1 := by omega
    simp [h1, h2]

set_option maxRecDepth 8000 in
set_option maxHeartbeats 4000000 in
theorem short_any (w : World) (hE : Ety w) :
    Calls Tryd.prog 9 #[] w fun e w' => e = .returned (.bool true) ∧ Below w.heap.size w w' := by
  have hd := decode_any none 0 0 [] w (Seg.nil _ _) (Nat.le_refl _) (Nat.zero_le _) (by omega) hE
  rw [show decP [] = (0, [], 0, 3) from rfl] at hd
  dsimp only at hd
  have hr1 := rightB_one ⟨#[107]⟩ []
  rw [show (decide (1 ≤ (⟨#[107]⟩ : ByteArray).size) && (decide ((⟨#[107]⟩ : ByteArray).size ≤ 4000) && decide (([] : List UInt8).length ≤ 4000))) = true from rfl] at hr1
  have HR1 := Lib.hid hr1
  clear hr1 hE
  go_enter Tryd.func9, Tryd.ntmps9
  go_wp2_with fail
  refine hd.mono ?_
  rintro e w1 ⟨v1, rfl, hv1, hb1⟩
  obtain ⟨A1, c1, rfl, _, _, _⟩ := hv1.seg
  clear hv1 hd
  go_wp2_with fail
  have hbx : Below w1.heap.size w1 (w1.alloc (.cells #[.int .i64 0, .slice A1 0 c1] 26)) := (Below.refl _ _).alloc (Nat.le_refl _) _
  have hb2 := Below.next' hb1 hbx hb1.size
  have hsg := SegW.one (w1.alloc (.cells #[.int .i64 0, .slice A1 0 c1] 26)) ⟨#[107]⟩ none 0 0 [] false 45 _ rfl (Seg.nil _ _) (Nat.le_refl _) (Nat.zero_le _)
  have hzz : (w1.alloc (.cells #[.int .i64 0, .slice A1 0 c1] 26)).heap.size = w1.heap.size + 1 := by simp
  rw [hzz] at hsg
  have hb3 := hb2.alloc hb2.size (.cells #[.string ⟨#[107]⟩, .slice none 0 0, .bool false] 45)
  refine (right_any 1 _ 1 1 _ _ hsg (by omega)).mono ?_
  rw [HR1.out]
  rintro e w4 ⟨rfl, hb4⟩
  have hbf := Below.next' hb3 hb4 hb3.size
  clear hbx hb2 hsg hb3 hb4
  go_wp2
  go_ret
  exact ⟨rfl, hbf⟩

end Go.Proofs.YtipfhcljdginoaaDoor
