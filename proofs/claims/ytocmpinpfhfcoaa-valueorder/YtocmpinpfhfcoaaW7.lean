/-
  The walk of the document's Decode.
-/
import Derived.Test.YtocmpinpfhfcoaaW6
import Derived.Test.YtocmpinpfhfcoaaPure2
namespace Go.Proofs.Ytocmpinpfhfcoaa
open Go.RowKit

/-- What the document's Decode answers. -/
def RDec (w : World) (l : List UInt8) (e : Ending) (w' : World) : Prop :=
  e = .returned (.tuple #[.agg #[.int .u8 (dec l).1.k, .int .i64 (dec l).1.n, .string (dec l).1.s], .int .i64 ((dec l).2.1 : Int), .int .i64 (dec l).2.2]) ∧ Below w.heap.size w w'

theorem RDec.of {w w' : World} {l : List UInt8} {v : V} {n : Nat} {x : Int} (h : dec l = (v, n, x)) (hb : Below w.heap.size w w') :
    RDec w l (.returned (.tuple #[.agg #[.int .u8 v.k, .int .i64 v.n, .string v.s], .int .i64 (n : Int), .int .i64 x])) w' := by
  unfold RDec
  rw [h]
  exact ⟨rfl, hb⟩

theorem decode_ok (A : Option Addr) (n c : Nat) (l : List UInt8) (v : V) (m : Nat) (w : World) (ha : Seg w A n l) (hnc : n ≤ c) (hcm : c ≤ maxLen) (hn : n ≤ 1099511627776) (hD : dec l = (v, m, 0)) :
    Calls Try.prog 9 #[.slice A n c] w fun e w' => ∃ r, e = .returned (.tuple #[.agg #[.int .u8 v.k, .int .i64 v.n, .string v.s], r, .int .i64 0]) ∧ Own w' w.heap.size 5 r (l.drop m) ∧ Below w.heap.size w w' :=
  (decode_any A n c l w ha hnc hcm hn).mono fun e w' h => by
    obtain ⟨r, h1, h2, h3⟩ := h
    rw [hD] at h1 h2
    exact ⟨r, h1, h2, h3⟩
theorem decode_err (A : Option Addr) (n c : Nat) (l : List UInt8) (v : V) (m : Nat) (x : Int) (w : World) (ha : Seg w A n l) (hnc : n ≤ c) (hcm : c ≤ maxLen) (hn : n ≤ 1099511627776) (hD : dec l = (v, m, x)) (hx : x ≠ 0) :
    Calls Try.prog 9 #[.slice A n c] w fun e w' => ∃ r, e = .returned (.tuple #[.agg #[.int .u8 v.k, .int .i64 v.n, .string v.s], r, .int .i64 x]) ∧ Own w' w.heap.size 5 r [] ∧ Below w.heap.size w w' :=
  (decode_any A n c l w ha hnc hcm hn).mono fun e w' h => by
    obtain ⟨r, h1, h2, h3⟩ := h
    rw [hD] at h1 h2
    simp only [if_neg hx] at h2
    exact ⟨r, h1, h2, h3⟩
theorem bytes_b (A B : Option Addr) (n m c d : Nat) (l r : List UInt8) (w : World) (ha : Seg w A n l) (hb : Seg w B m r) (hn : n ≤ maxLen) :
    Calls Try.prog 10 #[.slice A n c, .slice B m d] w fun e w' => e = .returned (.bool (l == r)) ∧ Below w.heap.size w w' :=
  (bytes_any A B n m c d l r w ha hb hn).mono fun e w' h => by
    obtain ⟨h1, k, rfl⟩ := h
    exact ⟨h1, below_drewN (Below.refl _ _) k⟩
theorem bytes_yes (A B : Option Addr) (n m c d : Nat) (l : List UInt8) (w : World) (ha : Seg w A n l) (hb : Seg w B m l) (hn : n ≤ maxLen) :
    Calls Try.prog 10 #[.slice A n c, .slice B m d] w fun e w' => e = .returned (.bool true) ∧ Below w.heap.size w w' :=
  (bytes_b A B n m c d l l w ha hb hn).mono fun e w' h => ⟨by rw [h.1, beq_self_eq_true], h.2⟩
theorem right_ok (a : V) (w : World) (h : a.Ok) :
    Calls Try.prog 12 #[.agg #[.int .u8 a.k, .int .i64 a.n, .string a.s]] w fun e w' => e = .returned (.bool true) ∧ Below w.heap.size w w' :=
  (right_any a w).mono fun e w' h' => ⟨by rw [h'.1, V.okB_of h], h'.2⟩

end Go.Proofs.Ytocmpinpfhfcoaa
