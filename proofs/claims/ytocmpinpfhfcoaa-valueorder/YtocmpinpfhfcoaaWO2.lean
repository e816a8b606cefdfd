/-
  What the law ValueOrder asks of the order of values; three values in boxes.
-/
import Derived.Test.YtocmpinpfhfcoaaWO
import Derived.Test.YtocmpinpfhfcoaaL07
import Derived.Lib.QuietBelow
namespace Go.Proofs.Ytocmpinpfhfcoaa
open Go.RowKit
open Go.Op (bytesLess)

theorem bl_trans : ∀ (x y z : List UInt8), bytesLess x y = true → bytesLess y z = true → bytesLess x z = true
  | _, [], _, h, _ => by rw [bl_nil] at h; cases h
  | _, _ :: _, [], _, h => by rw [bl_nil] at h; cases h
  | [], _ :: _, _ :: _, _, _ => rfl
  | a :: x, b :: y, c :: z, h1, h2 => by
    rw [bl_cons] at *
    simp only [Bool.or_eq_true, decide_eq_true_eq, Bool.and_eq_true, beq_iff_eq] at *
    rcases h1 with h1 | ⟨rfl, h1⟩
    · rcases h2 with h2 | ⟨rfl, h2⟩
      · exact .inl (UInt8.lt_trans h1 h2)
      · exact .inl h1
    · rcases h2 with h2 | ⟨rfl, h2⟩
      · exact .inl h2
      · exact .inr ⟨rfl, bl_trans x y z h1 h2⟩
theorem cmpV_trans (a b c : V) (ha : a.Ok) (hb : b.Ok) (hc : c.Ok) (h1 : cmpV a b < 0) (h2 : cmpV b c < 0) : cmpV a c < 0 := by
  rcases cmpV_key a b ha hb with ⟨_, k1⟩ | ⟨e, _⟩ | ⟨e, _⟩
  · rcases cmpV_key b c hb hc with ⟨_, k2⟩ | ⟨e, _⟩ | ⟨e, _⟩
    · have t1 := (k1 [] []).1
      have t2 := (k2 [] []).1
      rw [List.append_nil, List.append_nil] at t1 t2
      have t3 := bl_trans _ _ _ t1 t2
      rcases cmpV_key a c ha hc with ⟨e, _⟩ | ⟨_, k3⟩ | ⟨_, rfl⟩
      · omega
      · have := (k3 [] []).2
        rw [List.append_nil, List.append_nil, t3] at this
        cases this
      · rw [bl_irr] at t3
        cases t3
    · omega
    · omega
  · omega
  · omega
theorem eqB_cmp (a b : V) (ha : a.Ok) (hb : b.Ok) : V.eqB a b = (cmpV a b == 0) := by
  by_cases h : a = b
  · subst h
    rw [(V.eqB_iff _ _).2 rfl, cmpV_self a ha]
    rfl
  · have h1 : V.eqB a b ≠ true := fun e => h ((V.eqB_iff _ _).1 e)
    have h2 : cmpV a b ≠ 0 := fun e => h ((cmpV_zero a b ha hb).1 e)
    have h3 : V.eqB a b = false := by simpa using h1
    rw [h3]
    exact (show (cmpV a b == 0) = false by simpa using h2).symm

theorem vbox_new (w : World) (v : V) (t : TypeId) (g : Nat) (hg : g = w.heap.size) : VBox (w.alloc (.cells #[.int .u8 v.k, .int .i64 v.n, .string v.s] t)) g v := by
  subst hg
  exact ⟨by simp, by simp, by simp⟩
/-- Three values in boxes, behind three slots. -/
def ThreeBoxes (w : World) (a b c : V) (p q r : Value) (wc : World) : Prop :=
  ∃ i j k, p = .pointer (some ⟨i, 0, none⟩) ∧ q = .pointer (some ⟨j, 0, none⟩) ∧ r = .pointer (some ⟨k, 0, none⟩) ∧ VBox wc i a ∧ VBox wc j b ∧ VBox wc k c ∧ Below w.heap.size w wc

end Go.Proofs.Ytocmpinpfhfcoaa
