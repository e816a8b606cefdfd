/-
  More plain facts on values and their bytes.
-/
import Derived.Test.YtcmagjeplofagaaPure2
namespace Go.Proofs.Ytcmagjeplofagaa
open Go.RowKit

theorem enc_le (v : V) (h : v.Ok) : (enc v).length ≤ 1000 := by
  rcases h.cases with rfl | ⟨n, rfl, _, _⟩ | ⟨s, rfl, hs⟩
  · decide
  · rw [enc_int]; simp [high_length]
  · rw [enc_text]; simp [high_length]; omega

end Go.Proofs.Ytcmagjeplofagaa
