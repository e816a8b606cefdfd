/-
  The walks of Pack: the program's and the document's.
-/
import Derived.Test.YtcmagjeplofagaaWV
import Derived.Test.YtcmagjeplofagaaPureU
namespace Go.Proofs.Ytcmagjeplofagaa
open Go.RowKit

set_option maxHeartbeats 1000000 in
theorem pack_any (A : Option Addr) (n c : Nat) (l : List V) (w : World) (ha : SegV w A n l) (hn : n ≤ 255) (hok : ∀ v ∈ l, v.Ok) :
    Calls Try.prog 28 #[.slice A n c] w fun e w' => ∃ r, e = .returned r ∧ Own w' w.heap.size 5 r (packL l) ∧ Below w.heap.size w w' := by
  have hn' : (n : Int) ≤ 255 := by omega
  go_enter Try.func28, Try.ntmps28
  go_wp2
  go_loopw [3, 12] (fun p i w' => ∃ (k : Nat) (d : List UInt8), k ≤ n ∧ i = .int .i64 k ∧ d = UInt8.ofNat n :: encL (l.take k) ∧ Own w' w.heap.size 5 p d ∧ Below w.heap.size w w') (fun _ i _ => n - (intOf i).toNat)
  case atStart => exact ⟨0, [UInt8.ofNat n], Nat.zero_le _, rfl, rfl, Own.one _ _ _ _ _ _ rfl (by simp) (by simp; omega), (Below.refl _ _).alloc (Nat.le_refl _) _⟩
  case round =>
    obtain ⟨k, d, hk, rfl, hd, hod, hbw⟩ := hrel
    have hdl : d.length ≤ 1000 * n + 1 := by
      rw [hd, List.length_cons]
      have := encL_len (l.take k) fun x hx => hok x (List.mem_of_mem_take hx)
      rw [List.length_take] at this
      have h2 := ha.1
      omega
    have HD := Lib.hid hd
    clear hd
    obtain ⟨A', c', rfl, hs', hlc', hcm'⟩ := hod.forms
    by_cases hlt : k < n
    · obtain ⟨g, o, rfl, h0, h1, h2⟩ := (ha.below hbw).at_ hlt
      have hvo := hok (l[k]'(by rw [ha.1]; exact hlt)) (List.getElem_mem _)
      have HTS := Lib.hid (encL_take l k (by rw [ha.1]; exact hlt))
      generalize l[k]'(by rw [ha.1]; exact hlt) = v at *
      go_wp2_with fail
      refine (encode_any v _ hvo).mono ?_
      rintro e w2 ⟨r2, rfl, ho2, hb2⟩
      have hel := enc_le v hvo
      obtain ⟨A2, c2, rfl, hs2, hlc2, hcm2⟩ := ho2.forms
      have hod2 := (hod.alloc (.cells #[.int .u8 v.k, .int .i64 v.n, .string v.s] 41)).below hb2
      have hbw2 : Below w.heap.size w w2 := Below.next' (hbw.alloc hbw.size _) hb2 (by have := hbw.size; simp; omega)
      clear hb2 ho2 hod
      go_wp2_with (at_builtin
                   refine wpList_append_seg _ rfl (.tmp 16) (.tmp 18) _ _ bt rfl w.heap.size _ _ rfl hod2 A2 _ c2 (enc v) rfl hs2 (by omega) hbw2.size ?_
                   intro v3 w3 ho3 hg3 _
                   obtain ⟨d3, hd3⟩ : ∃ d3, d ++ enc v = d3 := ⟨_, rfl⟩
                   have hbw3 := below_grown hbw2 hod2 hg3 (Nat.le_refl _) hbw2.size
                   rw [hd3] at ho3
                   have HD3 := Lib.hid hd3
                   clear hd3 hg3)
      go_roundw
      case rel => exact ⟨k + 1, d3, hlt, by go_num, by rw [← HD3.out, HD.out, HTS.out, List.cons_append], ho3, hbw3⟩
      case measure => simp [intOf]; omega
    · go_wp2
      go_ret
      refine ⟨_, rfl, ?_, hbw⟩
      have hk' : l.take k = l := List.take_of_length_le (by rw [ha.1]; omega)
      have e : d = packL l := by rw [HD.out, hk']; unfold packL; rw [ha.1]
      rw [← e]
      exact hod

set_option maxHeartbeats 1000000 in
theorem rpack_any (A : Option Addr) (n c : Nat) (l : List V) (w : World) (ha : SegV w A n l) (hn : n ≤ 255) (hok : ∀ v ∈ l, v.Ok) :
    Calls Try.prog 32 #[.slice A n c] w fun e w' => ∃ r, e = .returned r ∧ Own w' w.heap.size 5 r (packL l) ∧ Below w.heap.size w w' := by
  have hn' : (n : Int) ≤ 255 := by omega
  go_enter Try.func32, Try.ntmps32
  go_wp2
  go_loopw [3, 4] (fun p i w' => ∃ (k : Nat) (d : List UInt8), k ≤ n ∧ i = .int .i64 k ∧ d = UInt8.ofNat n :: encL (l.take k) ∧ Own w' w.heap.size 5 p d ∧ Below w.heap.size w w') (fun _ i _ => n - (intOf i).toNat)
  case atStart => exact ⟨0, [UInt8.ofNat n], Nat.zero_le _, rfl, rfl, Own.one _ _ _ _ _ _ rfl (by simp) (by simp; omega), (Below.refl _ _).alloc (Nat.le_refl _) _⟩
  case round =>
    obtain ⟨k, d, hk, rfl, hd, hod, hbw⟩ := hrel
    have hdl : d.length ≤ 1000 * n + 1 := by
      rw [hd, List.length_cons]
      have := encL_len (l.take k) fun x hx => hok x (List.mem_of_mem_take hx)
      rw [List.length_take] at this
      have h2 := ha.1
      omega
    have HD := Lib.hid hd
    clear hd
    obtain ⟨A', c', rfl, hs', hlc', hcm'⟩ := hod.forms
    by_cases hlt : k < n
    · obtain ⟨g, o, rfl, h0, h1, h2⟩ := (ha.below hbw).at_ hlt
      have hvo := hok (l[k]'(by rw [ha.1]; exact hlt)) (List.getElem_mem _)
      have HTS := Lib.hid (encL_take l k (by rw [ha.1]; exact hlt))
      generalize l[k]'(by rw [ha.1]; exact hlt) = v at *
      go_wp2_with fail
      refine (rencode_any v _ hvo).mono ?_
      rintro e w2 ⟨r2, rfl, ho2, hb2⟩
      have hel := enc_le v hvo
      obtain ⟨A2, c2, rfl, hs2, hlc2, hcm2⟩ := ho2.forms
      replace hs' := hs'.below hb2
      have hbw2 : Below w.heap.size w w2 := Below.next' hbw hb2 hbw.size
      clear hb2 ho2
      go_wp2_with fail
      refine (join_any A' A2 _ _ c' c2 d (enc v) _ hs' hs2 (by omega)).mono ?_
      rintro e w3 ⟨r3, rfl, ho3, hb3⟩
      obtain ⟨d3, hd3⟩ : ∃ d3, d ++ enc v = d3 := ⟨_, rfl⟩
      rw [hd3] at ho3
      have HD3 := Lib.hid hd3
      have hbw3 : Below w.heap.size w w3 := Below.next' hbw2 hb3 hbw2.size
      obtain ⟨A3, c3, rfl, hs3, hlc3, hcm3⟩ := ho3.forms
      have ho3' := ho3.mono (b := w.heap.size) hbw2.size
      clear hb3 ho3 hd3
      go_wp2
      go_roundw
      case rel => exact ⟨k + 1, d3, hlt, by go_num, by rw [← HD3.out, HD.out, HTS.out, List.cons_append], ho3', hbw3⟩
      case measure => simp [intOf]; omega
    · go_wp2
      go_ret
      refine ⟨_, rfl, ?_, hbw⟩
      have hk' : l.take k = l := List.take_of_length_le (by rw [ha.1]; omega)
      have e : d = packL l := by rw [HD.out, hk']; unfold packL; rw [ha.1]
      rw [← e]
      exact hod

end Go.Proofs.Ytcmagjeplofagaa
