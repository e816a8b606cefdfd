/-
  The walks of Right, Same: the program's and the document's; of the document's example.
-/
import Derived.Test.YtcmagjeplofagaaW5
namespace Go.Proofs.Ytcmagjeplofagaa
open Go.RowKit

/-- '==' of two values. -/
theorem run_eqV (a b : V) (w : World) : (binOp .eql 41 (.agg #[.int .u8 a.k, .int .i64 a.n, .string a.s]) (.agg #[.int .u8 b.k, .int .i64 b.n, .string b.s])).run Try.prog w = .ok (.bool (V.eqB a b)) w := by
  by_cases h1 : a.k = b.k
  · by_cases h2 : a.n = b.n
    · by_cases h3 : a.s.toList = b.s.toList
      · simp [go_sem, V.eqB, h1, h2, h3]
      · simp [go_sem, V.eqB, h1, h2, h3]
    · simp [go_sem, V.eqB, h1, h2]
  · simp [go_sem, V.eqB, h1]
theorem run_neqV (a b : V) (w : World) : (binOp .neq 41 (.agg #[.int .u8 a.k, .int .i64 a.n, .string a.s]) (.agg #[.int .u8 b.k, .int .i64 b.n, .string b.s])).run Try.prog w = .ok (.bool (!V.eqB a b)) w := by
  by_cases h1 : a.k = b.k
  · by_cases h2 : a.n = b.n
    · by_cases h3 : a.s.toList = b.s.toList
      · simp [go_sem, V.eqB, h1, h2, h3]
      · simp [go_sem, V.eqB, h1, h2, h3]
    · simp [go_sem, V.eqB, h1, h2]
  · simp [go_sem, V.eqB, h1]

set_option maxHeartbeats 400000 in
theorem same_any (a b : V) (w : World) :
    Calls Try.prog 49 #[.agg #[.int .u8 a.k, .int .i64 a.n, .string a.s], .agg #[.int .u8 b.k, .int .i64 b.n, .string b.s]] w fun e w' => e = .returned (.bool (V.eqB a b)) ∧ Below w.heap.size w w' := by
  go_enter Try.func49, Try.ntmps49
  go_wp2
  all_goals
    go_ret
    refine ⟨?_, ((Below.refl _ _).alloc (Nat.le_refl _) _).alloc (by simp) _⟩
    simp [V.eqB, *]

theorem ret_bool {a b : Bool} (h : a = b) : Ending.returned (.bool a) = .returned (.bool b) := by rw [h]

set_option maxHeartbeats 400000 in
theorem rright_any (a : V) (w : World) :
    Calls Try.prog 59 #[.agg #[.int .u8 a.k, .int .i64 a.n, .string a.s]] w fun e w' => e = .returned (.bool (V.okB a)) ∧ Below w.heap.size w w' := by
  go_enter Try.func59, Try.ntmps59
  go_wp2
  · go_ret
    exact ⟨ret_bool (V.okB0a a ‹_› ‹_›), (Below.refl _ _).alloc (Nat.le_refl _) _⟩
  · go_ret
    exact ⟨ret_bool (V.okB0n a ‹_› ‹_›), (Below.refl _ _).alloc (Nat.le_refl _) _⟩
  · go_ret
    exact ⟨ret_bool (V.okB1a a ‹_› ‹_›), (Below.refl _ _).alloc (Nat.le_refl _) _⟩
  · go_ret
    exact ⟨ret_bool (V.okB2' a ‹_› ‹_›), (Below.refl _ _).alloc (Nat.le_refl _) _⟩
  · go_ret
    exact ⟨ret_bool (V.okB2n' a ‹_› ‹_›), (Below.refl _ _).alloc (Nat.le_refl _) _⟩
  · go_ret
    exact ⟨ret_bool (V.okB3n a ‹_› ‹_› ‹_›), (Below.refl _ _).alloc (Nat.le_refl _) _⟩

set_option maxHeartbeats 400000 in
theorem right_any (a : V) (w : World) :
    Calls Try.prog 57 #[.agg #[.int .u8 a.k, .int .i64 a.n, .string a.s]] w fun e w' => e = .returned (.bool (V.okB a)) ∧ Below w.heap.size w w' := by
  go_enter Try.func57, Try.ntmps57
  go_wp2_with (go_at_call 49; refine (same_any a V.none _).mono ?_; rintro e w1 ⟨rfl, hb⟩)
  · go_ret
    exact ⟨ret_bool (V.okB0 a ‹_›), ((Below.refl _ _).alloc (Nat.le_refl _) _).trans (hb.mono (by simp))⟩
  · go_ret
    exact ⟨ret_bool (V.okB1 a ‹_› ‹_›), (Below.refl _ _).alloc (Nat.le_refl _) _⟩
  · go_ret
    exact ⟨ret_bool (V.okB2 a ‹_› ‹_›), (Below.refl _ _).alloc (Nat.le_refl _) _⟩
  · go_ret
    exact ⟨ret_bool (V.okB2n a ‹_› ‹_›), (Below.refl _ _).alloc (Nat.le_refl _) _⟩
  · go_ret
    exact ⟨ret_bool (V.okB3 a ‹_› ‹_› ‹_›), (Below.refl _ _).alloc (Nat.le_refl _) _⟩

/-- The document's example: the text ab. -/
def abV : V := ⟨2, 0, ⟨#[97, 98]⟩⟩
theorem abV_ok : abV.Ok := .inr (.inr ⟨rfl, rfl, by decide⟩)
theorem abV_enc : enc abV = [2, 0, 2, 97, 98] := by decide +kernel
theorem abV_dec : dec [2, 0, 2, 97, 98] = (abV, 5, 0) := by
  have h1 : dec [2, 0, 2, 97, 98] = ((decText [0, 2, 97, 98]).1, if (decText [0, 2, 97, 98]).2.2 = 0 then (decText [0, 2, 97, 98]).2.1 + 1 else 0, (decText [0, 2, 97, 98]).2.2) := rfl
  have h2 : rdN [0, 2] = 2 := by decide +kernel
  have h3 : decText [0, 2, 97, 98] = (abV, 4, 0) := by
    unfold decText
    simp [h2, abV]
  rw [h1, h3]
  rfl

end Go.Proofs.Ytcmagjeplofagaa
