/-
  The walks of Hex: the program's and the document's.
-/
import Derived.Test.YtiggnmefechbaabDoorWA8
import Derived.Deep.RegionLaw
namespace Go.Proofs.YtiggnmefechbaabDoor
open Go.RowKit

def digits : List UInt8 := [48, 49, 50, 51, 52, 53, 54, 55, 56, 57, 97, 98, 99, 100, 101, 102]
def dig (n : Nat) : UInt8 := digits.getD n 0
def hex1 (b : UInt8) : List UInt8 := [dig (b.toNat / 16), dig (b.toNat % 16)]
def hexB (l : List UInt8) : List UInt8 := l.flatMap hex1

theorem hexB_len (l : List UInt8) : (hexB l).length = 2 * l.length := by
  induction l with
  | nil => rfl
  | cons b l ih =>
    show (hex1 b ++ hexB l).length = _
    rw [List.length_append, ih, List.length_cons]
    show 2 + _ = _
    omega
theorem hexB_snoc (l : List UInt8) (b : UInt8) : hexB (l ++ [b]) = hexB l ++ hex1 b := by
  unfold hexB
  rw [List.flatMap_append, List.flatMap_cons, List.flatMap_nil, List.append_nil]
theorem run_digit (W : World) (x : Nat) (hx : x < 16) : (Instr.index 9 (.string ⟨#[48, 49, 50, 51, 52, 53, 54, 55, 56, 57, 97, 98, 99, 100, 101, 102]⟩) (.int .u8 (x : Int))).run Tryd.prog W = .ok (.int .u8 ((dig x).toNat : Int)) W := by
  match x, hx with
  | 0, _ | 1, _ | 2, _ | 3, _ | 4, _ | 5, _ | 6, _ | 7, _ | 8, _ | 9, _ | 10, _ | 11, _ | 12, _ | 13, _ | 14, _ | 15, _ => simp [Instr.index, asIntOf, run_underlying Tryd.underlying9]; rfl
  | n + 16, h => exact absurd h (by omega)

theorem run_at (W : World) (s : ByteArray) (k : Nat) (b : UInt8) (h : s.data.toList[k]? = some b) : (Instr.index 9 (.string s) (.int .i64 (k : Int))).run Tryd.prog W = .ok (.int .u8 (b.toNat : Int)) W := by
  have h' : s[k]? = some b := by
    have hk : k < s.size := by
      have := (List.getElem?_eq_some_iff.1 h).1
      simpa using this
    rw [getElem?_pos s k hk, ← h, List.getElem?_eq_getElem (by simpa using hk)]
    rfl
  simp [Instr.index, asIntOf, run_underlying Tryd.underlying9, h']

set_option maxRecDepth 8000 in
set_option maxHeartbeats 4000000 in
theorem hex_any (s : ByteArray) (w : World) (hs : s.size ≤ 1000000) :
    Calls Tryd.prog 13 #[.string s] w fun e w' => e = .returned (.string ⟨(hexB s.data.toList).toArray⟩) ∧ Below w.heap.size w w' := by
  go_enter Tryd.func13, Tryd.ntmps13
  obtain ⟨i, hi, hz0, hz1, hz2⟩ := info_parts bt.hi
  go_wp2_with (at_make
               refine wpList_make_own _ rfl (.const (.int .i64 0)) (.tmp 7) _ rfl w.heap.size 5 i _ 1 bt.ht hi hz0 hz1 .i64 .i64 _ (2 * s.size) rfl rfl (by omega) (by rw [hz2]; omega) (by simp only [maxLen]; omega) (Nat.le_refl _) ?_
               intro w1 ho1 hg1)
  have ho : Own w1 w.heap.size 5 (.slice (some ⟨w.heap.size, 0, none⟩) 0 (2 * s.size)) [] := ho1
  have hb1 : Below w.heap.size w w1 := (Below.refl _ _).grown hg1 (Nat.le_refl _) (by intro k hk; cases hk)
  clear ho1 hg1 hi hz0 hz1 hz2
  go_loopw [3, 4, 11] (fun p _ i w' => ∃ (k : Nat) (d : List UInt8), k ≤ s.size ∧ i = .int .i64 k ∧ d = hexB (s.data.toList.take k) ∧ Own w' w.heap.size 5 p d ∧ Below w.heap.size w w') (fun _ _ i _ => s.size - (intOf i).toNat)
  case atStart => exact ⟨0, [], by omega, rfl, rfl, ho, hb1⟩
  case round =>
    clear ho hb1
    obtain ⟨k, d, hk, rfl, hd, ho, hbw⟩ := hrel
    have hdl : d.length = 2 * k := by
      rw [hd, hexB_len, List.length_take]
      have : s.data.toList.length = s.size := by simp
      omega
    obtain ⟨A', c', rfl, hs', hlc', hcm'⟩ := ho.forms
    by_cases hlt : k < s.size
    · have hb : s.data.toList[k]? = some (s.data.toList[k]'(by simpa using hlt)) := List.getElem?_eq_getElem _
      have HX := Lib.hid (show s.data.toList.take (k + 1) = s.data.toList.take k ++ [s.data.toList[k]'(by simpa using hlt)] from List.take_succ_eq_append_getElem _)
      generalize s.data.toList[k]'(by simpa using hlt) = b at *
      have hidx := fun W => run_at W s k b hb
      have hb8 := byte_lt b
      obtain ⟨q, hq0⟩ : ∃ q, b.toNat / 16 = q := ⟨_, rfl⟩
      obtain ⟨r, hr0⟩ : ∃ r, b.toNat % 16 = r := ⟨_, rfl⟩
      have hq : (b.toNat : Int) / 16 = (q : Int) := by omega
      have hr : bits .and .u8 (b.toNat : Int) 15 = (r : Int) := by
        have := u8_and_nat b.toNat 15 (by omega) (by omega)
        rw [show ((15 : Nat) : Int) = 15 from rfl] at this
        rw [this, nat_mask4, hr0]
      have d1 := fun W => run_digit W q (by omega)
      have d2 := fun W => run_digit W r (by omega)
      have HQ := Lib.hid hq0
      have HR := Lib.hid hr0
      clear hq0 hr0
      have HD := Lib.hid hd
      have HDL := Lib.hid hdl
      clear hd hb hdl
      go_wp2_with fail
      have hsz0 : w.heap.size ≤ wr.heap.size := hbw.size
      go_region_law (refine step_append_seg _ rfl (.tmp 14) (.tmp 25) _ _ bt rfl w.heap.size (.slice A' d.length c') d rfl (Own.alloc ho _) _ 2 2 [dig q, dig r] rfl (Seg.two _ _ _ _ _ _ rfl rfl) (by rw [HDL.out]; omega) (by simp; omega) ?_
                     intro v1 w1 hown1 hg1 hat1)
      all_goals
        have hb9 : Below w.heap.size w w1 := below_grown (hbw.alloc hsz0 _).drew (Own.drew (Own.alloc ho _)) hg1 (Nat.le_refl _) (by simp; omega)
        clear hat1 hg1 hidx d1 d2 hq hr
        obtain ⟨d', hd'⟩ : ∃ d', d ++ [dig q, dig r] = d' := ⟨_, rfl⟩
        rw [hd'] at hown1
        have HD' := Lib.hid hd'
        clear hd'
        obtain ⟨A1, c1, rfl, _, _, _⟩ := hown1.forms
        go_wp2
      all_goals go_roundw
      all_goals first
        | exact ⟨k + 1, d', by omega, by go_num, by rw [HX.out, hexB_snoc, ← HD'.out, HD.out, hex1, HQ.out, HR.out], hown1, hb9⟩
        | (simp [intOf]; omega)
    · have HK := Lib.hid (show s.data.toList.take k = s.data.toList from List.take_of_length_le (by simp; omega))
      have hcv := run_string_seg (P := Tryd.prog) wr 22 9 5 bt Tryd.underlying9 A' d.length c' d hs'
      have HD := Lib.hid hd
      clear hd hdl
      go_wp2
      go_ret
      refine ⟨?_, hbw⟩
      rw [← HK.out, ← HD.out]
      rfl

end Go.Proofs.YtiggnmefechbaabDoor
