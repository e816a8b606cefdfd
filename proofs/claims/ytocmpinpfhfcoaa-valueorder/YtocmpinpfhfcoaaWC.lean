/-
  The walks of the document's Compare: of two values, of two lists.
-/
import Derived.Test.YtocmpinpfhfcoaaPureO
import Derived.Test.YtocmpinpfhfcoaaWB
namespace Go.Proofs.Ytocmpinpfhfcoaa
open Go.RowKit
open Go.Op (bytesLess)

theorem run_gtrS (a b : ByteArray) (w : World) : (binOp .gtr 9 (.string a) (.string b)).run Try.prog w = .ok (.bool (bytesLess b.toList a.toList)) w := by
  have e : (!bytesLess a.toList b.toList && !(a.toList == b.toList)) = bytesLess b.toList a.toList := by
    rcases bl_tri a.toList b.toList with ⟨h1, h2, h3⟩ | ⟨h1, h2, h3⟩ | ⟨h1, h2, h3⟩
    · rw [h1, h2]; rfl
    · rw [h1, h2, beq_eq_false_iff_ne.2 h3]; rfl
    · rw [h1, h2, h3]; simp
  rw [← e]
  simp [go_sem, binOp, Op.stringOp]

theorem cmpV_1 {a b : V} (h : (a.k != b.k) = true) (h1 : a.k < b.k) : cmpV a b = -1 := by
  unfold cmpV
  rw [if_pos (by simpa using h), if_pos h1]
theorem cmpV_2 {a b : V} (h : (a.k != b.k) = true) (h1 : b.k ≤ a.k) : cmpV a b = 1 := by
  unfold cmpV
  rw [if_pos (by simpa using h), if_neg (by omega)]
theorem cmpV_3 {a b : V} (h : (a.k != b.k) = false) (h1 : a.n < b.n ∨ bytesLess a.s.toList b.s.toList = true) : cmpV a b = -1 := by
  unfold cmpV
  rw [if_neg (by simpa using h), if_pos h1]
theorem cmpV_4 {a b : V} (h : (a.k != b.k) = false) (h1 : b.n ≤ a.n ∧ bytesLess a.s.toList b.s.toList = false) (h2 : b.n < a.n ∨ (!a.s.toList == b.s.toList) = true) : cmpV a b = 1 := by
  unfold cmpV
  have h3 : ¬ (a.n < b.n ∨ bytesLess a.s.toList b.s.toList = true) := by
    rintro (h' | h')
    · omega
    · rw [h1.2] at h'; cases h'
  rw [if_neg (by simpa using h), if_neg h3, if_pos]
  rcases h2 with h2 | h2
  · exact .inl h2
  · rcases bl_tri a.s.toList b.s.toList with ⟨e, _, _⟩ | ⟨_, e, _⟩ | ⟨_, _, e⟩
    · rw [h1.2] at e; cases e
    · exact .inr e
    · rw [e] at h2; simp at h2
theorem cmpV_5 {a b : V} (h : (a.k != b.k) = false) (h1 : b.n ≤ a.n ∧ bytesLess a.s.toList b.s.toList = false) (h2 : a.n ≤ b.n ∧ (!a.s.toList == b.s.toList) = false) : cmpV a b = 0 := by
  unfold cmpV
  have e : a.s.toList = b.s.toList := by
    have := h2.2
    simpa using this
  rw [if_neg (by simpa using h), if_neg, if_neg]
  · rw [e, bl_irr]
    rintro (h' | h')
    · omega
    · cases h'
  · rw [e, bl_irr]
    rintro (h' | h')
    · omega
    · cases h'

set_option maxHeartbeats 1000000 in
theorem rcompare_any (a b : V) (w : World) :
    Calls Try.prog 7 #[.agg #[.int .u8 a.k, .int .i64 a.n, .string a.s], .agg #[.int .u8 b.k, .int .i64 b.n, .string b.s]] w fun e w' => e = .returned (.int .i64 (cmpV a b)) ∧ Below w.heap.size w w' := by
  have kg := run_gtrS a.s b.s
  go_enter Try.func7, Try.ntmps7
  go_wp2
  all_goals
    go_ret
    refine ⟨?_, ((Below.refl _ _).alloc (Nat.le_refl _) _).alloc (by simp) _⟩
    first
      | exact congrArg (fun x => Ending.returned (.int .i64 x)) (cmpV_1 ‹_› ‹_›).symm
      | exact congrArg (fun x => Ending.returned (.int .i64 x)) (cmpV_2 ‹_› ‹_›).symm
      | exact congrArg (fun x => Ending.returned (.int .i64 x)) (cmpV_3 ‹_› ‹_›).symm
      | exact congrArg (fun x => Ending.returned (.int .i64 x)) (cmpV_3 ‹_› (.inl ‹_›)).symm
      | exact congrArg (fun x => Ending.returned (.int .i64 x)) (cmpV_4 ‹_› ‹_› ‹_›).symm
      | exact congrArg (fun x => Ending.returned (.int .i64 x)) (cmpV_4 ‹_› ‹_› (.inl ‹_›)).symm
      | exact congrArg (fun x => Ending.returned (.int .i64 x)) (cmpV_5 ‹_› ‹_› ‹_›).symm

end Go.Proofs.Ytocmpinpfhfcoaa
