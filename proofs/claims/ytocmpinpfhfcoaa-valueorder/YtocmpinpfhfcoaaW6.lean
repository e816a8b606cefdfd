/-
  The walks of Right, Same: the program's and the document's; of the document's example.
-/
import Derived.Test.YtocmpinpfhfcoaaW5
namespace Go.Proofs.Ytocmpinpfhfcoaa
open Go.RowKit

/-- '==' of two values. -/
theorem run_eqV (a b : V) (w : World) : (binOp .eql 24 (.agg #[.int .u8 a.k, .int .i64 a.n, .string a.s]) (.agg #[.int .u8 b.k, .int .i64 b.n, .string b.s])).run Try.prog w = .ok (.bool (V.eqB a b)) w := by
  by_cases h1 : a.k = b.k
  · by_cases h2 : a.n = b.n
    · by_cases h3 : a.s.toList = b.s.toList
      · simp [go_sem, V.eqB, h1, h2, h3]
      · simp [go_sem, V.eqB, h1, h2, h3]
    · simp [go_sem, V.eqB, h1, h2]
  · simp [go_sem, V.eqB, h1]
theorem run_neqV (a b : V) (w : World) : (binOp .neq 24 (.agg #[.int .u8 a.k, .int .i64 a.n, .string a.s]) (.agg #[.int .u8 b.k, .int .i64 b.n, .string b.s])).run Try.prog w = .ok (.bool (!V.eqB a b)) w := by
  by_cases h1 : a.k = b.k
  · by_cases h2 : a.n = b.n
    · by_cases h3 : a.s.toList = b.s.toList
      · simp [go_sem, V.eqB, h1, h2, h3]
      · simp [go_sem, V.eqB, h1, h2, h3]
    · simp [go_sem, V.eqB, h1, h2]
  · simp [go_sem, V.eqB, h1]

set_option maxHeartbeats 400000 in
theorem same_any (a b : V) (w : World) :
    Calls Try.prog 8 #[.agg #[.int .u8 a.k, .int .i64 a.n, .string a.s], .agg #[.int .u8 b.k, .int .i64 b.n, .string b.s]] w fun e w' => e = .returned (.bool (V.eqB a b)) ∧ Below w.heap.size w w' := by
  go_enter Try.func8, Try.ntmps8
  go_wp2
  all_goals
    go_ret
    refine ⟨?_, ((Below.refl _ _).alloc (Nat.le_refl _) _).alloc (by simp) _⟩
    simp [V.eqB, *]

theorem ret_bool {a b : Bool} (h : a = b) : Ending.returned (.bool a) = .returned (.bool b) := by rw [h]

set_option maxHeartbeats 400000 in
theorem right_any (a : V) (w : World) :
    Calls Try.prog 12 #[.agg #[.int .u8 a.k, .int .i64 a.n, .string a.s]] w fun e w' => e = .returned (.bool (V.okB a)) ∧ Below w.heap.size w w' := by
  go_enter Try.func12, Try.ntmps12
  go_wp2_with (go_at_call 8; refine (same_any a V.none _).mono ?_; rintro e w1 ⟨rfl, hb⟩)
  · go_ret
    exact ⟨ret_bool (V.okB0 a ‹_›), ((Below.refl _ _).alloc (Nat.le_refl _) _).trans (hb.mono (by simp))⟩
  · go_ret
    exact ⟨ret_bool (V.okB1 a ‹_› ‹_›), (Below.refl _ _).alloc (Nat.le_refl _) _⟩
  · go_ret
    exact ⟨ret_bool (V.okB2 a ‹_› ‹_›), (Below.refl _ _).alloc (Nat.le_refl _) _⟩
  · go_ret
    exact ⟨ret_bool (V.okB2n a ‹_› ‹_›), (Below.refl _ _).alloc (Nat.le_refl _) _⟩
  · go_ret
    exact ⟨ret_bool (V.okB3 a ‹_› ‹_› ‹_›), (Below.refl _ _).alloc (Nat.le_refl _) _⟩

/-- The document's example: the text ab. -/
def abV : V := ⟨2, 0, ⟨#[97, 98]⟩⟩
theorem abV_ok : abV.Ok := .inr (.inr ⟨rfl, rfl, by decide⟩)
theorem abV_enc : enc abV = [2, 0, 2, 97, 98] := by decide +kernel
theorem abV_dec : dec [2, 0, 2, 97, 98] = (abV, 5, 0) := by
  have h1 : dec [2, 0, 2, 97, 98] = ((decText [0, 2, 97, 98]).1, if (decText [0, 2, 97, 98]).2.2 = 0 then (decText [0, 2, 97, 98]).2.1 + 1 else 0, (decText [0, 2, 97, 98]).2.2) := rfl
  have h2 : rdN [0, 2] = 2 := by decide +kernel
  have h3 : decText [0, 2, 97, 98] = (abV, 4, 0) := by
    unfold decText
    simp [h2, abV]
  rw [h1, h3]
  rfl

set_option maxHeartbeats 1000000 in
theorem text_any (w : World) : Calls Try.prog 5 #[] w fun e w' => e = .returned (.bool true) ∧ Below w.heap.size w w' := by
  go_enter Try.func5, Try.ntmps5
  go_wp2_with fail
  refine (decode_any _ 5 5 [2, 0, 2, 97, 98] _ (Seg.newAt _ _ _ _ _ _ (by simp) rfl rfl) (Nat.le_refl _) (by simp [maxLen]) (by omega)).mono ?_
  rintro e w1 ⟨v, rfl, ho, hb⟩
  rw [abV_dec] at ho ⊢
  dsimp only [abV]
  have hbw : Below w.heap.size w w1 := (((Below.refl _ _).alloc (Nat.le_refl _) _).alloc (by simp) _).trans (hb.mono (by simp; omega))
  obtain ⟨A', c', rfl, hs', hlc', hcm'⟩ := ho.forms
  have hc : ∀ j, w1.cell? ⟨w.heap.size, j, none⟩ = (w.alloc (.cells #[.int .u8 2, .int .i64 0, .string ⟨#[97, 98]⟩] 24)).cell? ⟨w.heap.size, j, none⟩ := fun j => by
    rw [hb.cell (p := ⟨w.heap.size, j, none⟩) (by simp; omega), World.cell?_alloc_lt _ _ _ (by simp)]
  have hsz : w.heap.size < w1.heap.size := by have := hb.size; simp at this; omega
  clear hb ho hs' hlc' hcm'
  go_wp2_with fail
  refine (encode_any abV _ abV_ok).mono ?_
  rintro e w2 ⟨v2, rfl, ho2, hb2⟩
  rw [abV_enc] at ho2
  have hbw2 : Below w.heap.size w w2 := (hbw.alloc hbw.size _).trans (hb2.mono (by simp; omega))
  obtain ⟨hc20, hc21⟩ := bcell hb2
  obtain ⟨A2, c2, rfl, hs2, hlc2, hcm2⟩ := ho2.forms
  have hsz2 : w1.heap.size < w2.heap.size := by have := hb2.size; simp at this; omega
  clear hb2 ho2
  go_wp2_with fail
  refine (bytes_any _ _ _ _ _ _ [2, 0, 2, 97, 98] [2, 0, 2, 97, 98] _ (hs2.alloc _) (Seg.newAt _ _ _ _ _ _ rfl rfl rfl) (by simp [maxLen])).mono ?_
  rintro e w3 ⟨rfl, k3, rfl⟩
  have e1 : (([2, 0, 2, 97, 98] : List UInt8) == [2, 0, 2, 97, 98]) = true := by decide
  rw [e1]
  have hw0 : w.heap.size < w2.heap.size := by omega
  go_wp2_with fail
  refine (right_any abV _).mono ?_
  rintro e w3 ⟨rfl, hb3⟩
  rw [V.okB_of abV_ok]
  go_wp2
  go_ret
  exact ⟨rfl, (below_drewN (hbw2.alloc hbw2.size _) k3).trans (hb3.mono (by simp; omega))⟩

end Go.Proofs.Ytocmpinpfhfcoaa
