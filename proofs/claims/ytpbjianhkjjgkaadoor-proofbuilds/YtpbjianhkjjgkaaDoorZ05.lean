/-
  Texts of one claim, joined.
-/
import Derived.Test.YtpbjianhkjjgkaaDoorZ02
namespace Go.Proofs.YtpbjianhkjjgkaaDoor

def leafL (k l : List UInt8) : List UInt8 := [1] ++ high k.length 4 ++ k ++ l
def nodeL (x y : List UInt8) : List UInt8 := [2] ++ x ++ y
def linkL (x y z : List UInt8) : List UInt8 := [3] ++ x ++ y ++ z

theorem leafL_length (k l : List UInt8) : (leafL k l).length = 5 + k.length + l.length := by
  simp only [leafL, List.length_append, high_length, List.length_cons, List.length_nil]
theorem nodeL_length (x y : List UInt8) : (nodeL x y).length = 1 + x.length + y.length := by
  simp only [nodeL, List.length_append, List.length_cons, List.length_nil]
theorem linkL_length (x y z : List UInt8) : (linkL x y z).length = 1 + x.length + y.length + z.length := by
  simp only [linkL, List.length_append, List.length_cons, List.length_nil]
theorem leafL_inj {k l p q : List UInt8} (hk : k.length ≤ 1000000000) (hl : l.length ≤ 1000000000) (h : leafL k p = leafL l q) : k = l ∧ p = q := by
  have h1 : high k.length 4 ++ (k ++ p) = high l.length 4 ++ (l ++ q) := by
    have : [1] ++ (high k.length 4 ++ (k ++ p)) = [1] ++ (high l.length 4 ++ (l ++ q)) := by
      simpa only [leafL, List.append_assoc] using h
    exact List.append_cancel_left this
  obtain ⟨h2, h3⟩ := List.append_inj h1 (by rw [high_length, high_length])
  have h4 : k.length = l.length := by
    have := congrArg rdN h2
    rw [rdN_high, rdN_high, Nat.mod_eq_of_lt (Nat.lt_of_le_of_lt hk (by decide)), Nat.mod_eq_of_lt (Nat.lt_of_le_of_lt hl (by decide))] at this
    exact this
  exact List.append_inj h3 h4
theorem leafL_beq (k l p q : List UInt8) (hk : k.length ≤ 1000000000) (hl : l.length ≤ 1000000000) : (leafL k p == leafL l q) = (k == l && p == q) := by
  rw [Bool.eq_iff_iff]
  simp only [beq_iff_eq, Bool.and_eq_true]
  exact ⟨leafL_inj hk hl, fun ⟨h, h'⟩ => by rw [h, h']⟩
theorem nodeL_beq (x y : List UInt8) (h : x.length = y.length) : (nodeL x y == nodeL y x) = (x == y) := by
  rw [Bool.eq_iff_iff]
  simp only [beq_iff_eq]
  refine ⟨fun e => ?_, fun e => by rw [e]⟩
  have h1 : [2] ++ (x ++ y) = [2] ++ (y ++ x) := by simpa only [nodeL, List.append_assoc] using e
  exact (List.append_inj (List.append_cancel_left h1) h).1
theorem leaf_node (k p x y : List UInt8) : (leafL k p == nodeL x y) = false := by
  rw [beq_eq_false_iff_ne]
  intro h
  have := congrArg List.head? h
  exact absurd this (by simp [leafL, nodeL])
theorem link_node (x y z u v : List UInt8) : (linkL x y z == nodeL u v) = false := by
  rw [beq_eq_false_iff_ne]
  intro h
  have := congrArg List.head? h
  exact absurd this (by simp [linkL, nodeL])
theorem leaf_empty (k p : List UInt8) : (leafL k p == [0]) = false := by
  rw [beq_eq_false_iff_ne]
  intro h
  have := congrArg List.head? h
  exact absurd this (by simp [leafL])

end Go.Proofs.YtpbjianhkjjgkaaDoor

namespace Go.Proofs.YtpbjianhkjjgkaaDoor
open Go.RowKit

/-- The laws' keys, by numbers. -/
def keyB (u : Nat) : List UInt8 := if u < 24 then [107, UInt8.ofNat u] else [120, UInt8.ofNat (u - 24)]
/-- The first eight bytes of a key's sum, as one number. -/
def sumN (u : Nat) : Nat := rdN ((sha (keyB u)).take 8)

end Go.Proofs.YtpbjianhkjjgkaaDoor
