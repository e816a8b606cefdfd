/-
  The walks of Encode: the program's and the document's.
-/
import Derived.Test.YtcmagjeplofagaaW2
namespace Go.Proofs.Ytcmagjeplofagaa
open Go.RowKit

set_option maxHeartbeats 400000 in
theorem encode_any (v : V) (w : World) (hok : v.Ok) :
    Calls Try.prog 50 #[.agg #[.int .u8 v.k, .int .i64 v.n, .string v.s]] w fun e w' => ∃ r, e = .returned r ∧ Own w' w.heap.size 5 r (enc v) ∧ Below w.heap.size w w' := by
  obtain ⟨k, n, s⟩ := v
  rcases hok with ⟨h1, h2, h3⟩ | ⟨h1, h2, h3, h4⟩ | ⟨h1, h2, h3⟩ <;> simp only at h1 h2 h3
  · subst h1 h2 h3
    go_enter Try.func50, Try.ntmps50
    go_wp2
    go_ret
    refine ⟨_, rfl, ?_, ?_⟩
    · exact Own.one _ _ _ _ _ 0 (by simp) (by simp) rfl
    · exact ((Below.refl _ _).alloc (Nat.le_refl _) _).alloc (by simp) _
  · subst h1 h2
    go_enter Try.func50, Try.ntmps50
    go_wp2_with fail
    rw [u64N_eq]
    refine (appendHigh_call _ (w.heap.size + 1) [1] _ _ _ (Own.one _ _ _ _ _ 1 (by simp) (by simp) rfl) (by simp) (by omega) (by omega) (by omega) (by simp)).mono ?_
    rintro e w1 ⟨r, rfl, ho, hg⟩
    have hb : Below w.heap.size w w1 := hg.below (((Below.refl _ _).alloc (Nat.le_refl _) _).alloc (by simp) _) (Own.one _ (w.heap.size + 1) _ _ _ 1 (by simp) (by simp) rfl) (by omega) (by simp; omega)
    obtain ⟨A', c', rfl, hs', hlc', hcm'⟩ := ho.forms
    go_wp2
    go_ret
    exact ⟨_, rfl, ho.mono (by omega), hb⟩
  · subst h1 h2
    go_enter Try.func50, Try.ntmps50
    go_wp2_with fail
    refine (appendHigh_call _ (w.heap.size + 1) [2] _ _ _ (Own.one _ _ _ _ _ 2 (by simp) (by simp) rfl) (by simp) (by omega) (by omega) (by omega) (by simp)).mono ?_
    rintro e w1 ⟨r, rfl, ho, hg⟩
    have hb : Below (w.heap.size + 1) (w.alloc (.cells #[.int .u8 2, .int .i64 0, .string s] 41)) w1 := hg.below ((Below.refl _ _).alloc (by simp) _) (Own.one _ (w.heap.size + 1) _ _ _ 2 (by simp) (by simp) rfl) (by omega) (by simp)
    have hsz : w.heap.size < w1.heap.size := by have := hb.size; simp at this; omega
    have hc2 : w1.cell? ⟨w.heap.size, 2, none⟩ = some (.string s) := by
      rw [hb.cell (p := ⟨w.heap.size, 2, none⟩) (by simp)]; simp
    obtain ⟨A', c', rfl, hs', hlc', hcm'⟩ := ho.forms
    go_wp2_with (at_builtin
                 refine wpList_append_str _ rfl (.tmp 24) (.tmp 26) _ _ _ bt Try.underlying9 rfl (w.heap.size + 1) _ _ rfl ho s rfl (by simp [high]; omega) (by omega) ?_
                 intro v2 w2 ho2 hg2)
    go_ret
    refine ⟨_, rfl, ?_, ?_⟩
    · have := ho2.mono (b := w.heap.size) (by omega)
      simpa [enc, List.append_assoc] using this
    · exact (((Below.refl _ _).alloc (Nat.le_refl _) _).trans (hb.mono (by omega))).grown hg2 (by omega) (fun k hk => by have := (ho.lt k hk).1; omega)
end Go.Proofs.Ytcmagjeplofagaa
