/-
  An operation with a guard that lets it run, as one without a guard.
-/
import Derived.Test.YtipfhcljdginoaaDoorQS
namespace Go.Proofs.YtipfhcljdginoaaDoor
open Go

theorem wpList_unguard {P : Program} {ops : Array Oper} {Q : Exit → Act → World → Prop} {rest : List Oper} {a : Act} {w : World} {d : Option Nat} {op : Op} {t : TypeId} {p : String} {af : Array Edge} {g : Option (Nat × Bool)}
    (hw : Region.wanted ⟨d, op, t, p, af, g⟩ (yielded ops a.tmps) = true) (h : wpList P ops Q (⟨d, op, t, p, af, none⟩ :: rest) a w) : wpList P ops Q (⟨d, op, t, p, af, g⟩ :: rest) a w := by
  have h0 : Region.wanted (⟨d, op, t, p, af, none⟩ : Oper) (yielded ops a.tmps) = true := by simp [Region.wanted]
  unfold wpList at h ⊢
  rw [if_pos h0] at h
  rw [if_pos hw]
  exact h

section
variable {P : Program} {ops : Array Oper} {Q : Exit → Act → World → Prop} {md : Region.Mode} {C : World → Prop} {d : Option Nat} {op : Op} {t : TypeId} {p : String} {af : Array Edge} {g : Option (Nat × Bool)}
/-- Just one may come, and its guard lets it run. -/
theorem wpAnyS_stepg {T : Nat → Bool} (i : Nat) {fuel : Nat} {listed : Array Bool} {a : Act} {w : World} (hi : ops[i]? = some ⟨d, op, t, p, af, g⟩) (hr : decide (Region.ready md ops listed = [i]) = true)
    (hw : Region.wanted ⟨d, op, t, p, af, g⟩ (yielded ops a.tmps) = true)
    (h : wpList P ops (Exit.then (fun a' w' => (T i = true ∨ C w') ∧ wpAnyS P md ops Q C T fuel (listed.setIfInBounds i true) a' w') Q) [⟨d, op, t, p, af, none⟩] a w) : wpAnyS P md ops Q C T (fuel + 1) listed a w :=
  wpAnyS_step i hi hr (wpList_unguard hw h)
theorem wpAnyT_stepg {T : Nat} (i : Nat) {fuel : Nat} {listed : Array Bool} {a : Act} {w : World} (hi : ops[i]? = some ⟨d, op, t, p, af, g⟩) (hr : decide (Region.ready md ops listed = [i]) = true)
    (hw : Region.wanted ⟨d, op, t, p, af, g⟩ (yielded ops a.tmps) = true)
    (h : wpList P ops (Exit.then (fun a' w' => (i = T ∨ C w') ∧ wpAnyT P md ops Q C T fuel (listed.setIfInBounds i true) a' w') Q) [⟨d, op, t, p, af, none⟩] a w) : wpAnyT P md ops Q C T (fuel + 1) listed a w :=
  wpAnyT_step i hi hr (wpList_unguard hw h)
end

end Go.Proofs.YtipfhcljdginoaaDoor
