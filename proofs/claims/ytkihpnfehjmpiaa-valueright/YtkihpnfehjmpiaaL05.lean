/-
  The walk of the law ValueRight.
-/
import Derived.Test.YtkihpnfehjmpiaaW6
import Derived.OpenShut
namespace Go.Proofs.Ytkihpnfehjmpiaa
open Go.RowKit

set_option maxHeartbeats 2000000 in
theorem valueRight_core (k n : Int) (s : ByteArray) (m : Int) (w : World) (hm0 : 0 ≤ m) (hm1 : m ≤ 65535) :
    Calls Try.prog 5 #[.int .u8 k, .int .i64 n, .string s, .int .u16 m] w fun e w' => e = .returned (.bool true) ∧ Below w.heap.size w w' := by
  have hr0 : 0 ≤ m % 260 := by omega
  have hr1 : m % 260 < 260 := by omega
  obtain ⟨r, hr⟩ : ∃ r : Nat, m % 260 = (r : Int) := ⟨(m % 260).toNat, by omega⟩
  go_enter Try.func5, Try.ntmps5
  go_wp2_with (at_make
               refine wpList_make_bytes _ rfl (.tmp 17) (.tmp 17) _ _ bt rfl (w.heap.size + 1) .i64 .i64 r r r rfl rfl rfl rfl (by omega) (by simp) ?_
               intro w1 ho1 hg1
               obtain ⟨A1, c1, hv1, hs1, _, _⟩ := ho1.forms
               obtain ⟨t, ht, hts⟩ : ∃ t : ByteArray, (⟨(List.replicate r (0 : UInt8)).toArray⟩ : ByteArray) = t ∧ t.size = r := ⟨_, rfl, by simp [ByteArray.size]⟩
               have hsx : Seg w1 (some ⟨(w.alloc (.cells #[.int .u8 k, .int .i64 n, .string s] 26)).heap.size, 0, none⟩) r (List.replicate r 0) := by
                 rw [List.length_replicate] at hv1 hs1
                 injection hv1 with e1
                 rw [e1]
                 exact hs1
               have kc := run_string_seg (P := Try.prog) w1 24 9 5 bt Try.underlying9 _ r r _ hsx
               rw [ht] at kc
               simp only [World.size_alloc] at kc
               have hbw1 : Below w.heap.size w w1 := ((Below.refl _ _).alloc (Nat.le_refl _) _).grown hg1 (by simp) (by simp)
               have hbx : Below (w.heap.size + 1) (w.alloc (.cells #[.int .u8 k, .int .i64 n, .string s] 26)) w1 := (Below.refl _ _).grown hg1 (by simp) (by simp)
               clear ho1 hg1 hv1 hs1 hsx ht)
  clear kc
  obtain ⟨hx0, hx1, hx2, _, hxs⟩ := box3B hbx (by omega)
  have hy0 : (w1.alloc (.cells #[.int .u8 2, .int .i64 0, .string t] 26)).cell? ⟨w1.heap.size, 0, none⟩ = some (.int .u8 2) := by simp
  have hy1 : (w1.alloc (.cells #[.int .u8 2, .int .i64 0, .string t] 26)).cell? ⟨w1.heap.size, 1, none⟩ = some (.int .i64 0) := by simp
  have hy2 : (w1.alloc (.cells #[.int .u8 2, .int .i64 0, .string t] 26)).cell? ⟨w1.heap.size, 2, none⟩ = some (.string t) := by simp
  have hz0 := cell_alloc (.cells #[.int .u8 2, .int .i64 0, .string t] 26) hx0
  have hz1 := cell_alloc (.cells #[.int .u8 2, .int .i64 0, .string t] 26) hx1
  have hz2 := cell_alloc (.cells #[.int .u8 2, .int .i64 0, .string t] 26) hx2
  have hbW : Below w.heap.size w (w1.alloc (.cells #[.int .u8 2, .int .i64 0, .string t] 26)) := hbw1.alloc hbw1.size _
  generalize w1.alloc (.cells #[.int .u8 2, .int .i64 0, .string t] 26) = W at *
  generalize w1.heap.size = by' at *
  have keq := run_eqV ⟨k, n, s⟩ ⟨2, 0, t⟩
  have hvv : V.eqB ⟨k, n, s⟩ ⟨k, n, s⟩ = true := (V.eqB_iff _ _).2 rfl
  have hok : V.okB ⟨2, 0, t⟩ = decide ((r : Int) ≤ 200) := by
    rw [← V.okB2 ⟨2, 0, t⟩ rfl rfl]
    simp only [hts]
  have htm : m.tmod 260 = (r : Int) := by rw [Int.tmod_eq_emod_of_nonneg hm0]; exact hr
  clear hx0 hx1 hx2 hxs hbw1 hbx hts
  go_region_held3 (fun W' => W'.cell? ⟨w.heap.size, 0, none⟩ = some (.int .u8 k) ∧ W'.cell? ⟨w.heap.size, 1, none⟩ = some (.int .i64 n) ∧ W'.cell? ⟨w.heap.size, 2, none⟩ = some (.string s) ∧
      W'.cell? ⟨by', 0, none⟩ = some (.int .u8 2) ∧ W'.cell? ⟨by', 1, none⟩ = some (.int .i64 0) ∧ W'.cell? ⟨by', 2, none⟩ = some (.string t) ∧ Below W.heap.size W W')
    (first | exact ⟨hz0, hz1, hz2, hy0, hy1, hy2, (Below.refl _ _).drew⟩ | exact ⟨cell_below hB2 hz0, cell_below hB2 hz1, cell_below hB2 hz2, cell_below hB2 hy0, cell_below hB2 hy1, cell_below hB2 hy2, hB2⟩)
    (first
      | (go_at_call 15; refine (text_any _).mono ?_; rintro e w2 ⟨rfl, hb2⟩; have hB2 : Below W.heap.size W w2 := Below.next (‹_ ∧ _ ∧ _ ∧ _ ∧ _ ∧ _ ∧ Below _ _ _›).2.2.2.2.2.2 hb2)
      | (go_at_call_of 20 (Value.string s); refine (right_any ⟨k, n, s⟩ _).mono ?_; rintro e w2 ⟨rfl, hb2⟩; have hB2 : Below W.heap.size W w2 := Below.next (‹_ ∧ _ ∧ _ ∧ _ ∧ _ ∧ _ ∧ Below _ _ _›).2.2.2.2.2.2 hb2)
      | (go_at_call_of 20 (Value.string t); refine (right_any ⟨2, 0, t⟩ _).mono ?_; rintro e w2 ⟨rfl, hb2⟩; have hB2 : Below W.heap.size W w2 := Below.next (‹_ ∧ _ ∧ _ ∧ _ ∧ _ ∧ _ ∧ Below _ _ _›).2.2.2.2.2.2 hb2)
      | (go_at_call 24; refine (rright_any ⟨k, n, s⟩ _).mono ?_; rintro e w2 ⟨rfl, hb2⟩; have hB2 : Below W.heap.size W w2 := Below.next (‹_ ∧ _ ∧ _ ∧ _ ∧ _ ∧ _ ∧ Below _ _ _›).2.2.2.2.2.2 hb2)
      | (go_at_call_of 25 (Value.string t); refine (same_any ⟨k, n, s⟩ ⟨2, 0, t⟩ _).mono ?_; rintro e w2 ⟨rfl, hb2⟩; have hB2 : Below W.heap.size W w2 := Below.next (‹_ ∧ _ ∧ _ ∧ _ ∧ _ ∧ _ ∧ Below _ _ _›).2.2.2.2.2.2 hb2)
      | (go_at_call 25; refine (same_any ⟨k, n, s⟩ ⟨k, n, s⟩ _).mono ?_; rintro e w2 ⟨rfl, hb2⟩; have hB2 : Below W.heap.size W w2 := Below.next (‹_ ∧ _ ∧ _ ∧ _ ∧ _ ∧ _ ∧ Below _ _ _›).2.2.2.2.2.2 hb2))
  all_goals go_wp2
  all_goals go_ret
  all_goals exact ⟨rfl, hbW.trans (hB2.mono hbW.size)⟩

theorem valueRight_walk (k n : Int) (s : ByteArray) (m : Int) (w : World) (_ : (Lit.int .u8 k).wf = true) (_ : (Lit.int .i64 n).wf = true) (_ : s.size ≤ maxLen) (hm : (Lit.int .u16 m).wf = true) :
    Calls Try.prog 5 #[.int .u8 k, .int .i64 n, .string s, .int .u16 m] w fun e w' => e = .returned (.bool true) ∧ Below w.heap.size w w' :=
  valueRight_core k n s m w (bounds_u16 hm).1 (bounds_u16 hm).2

end Go.Proofs.Ytkihpnfehjmpiaa
