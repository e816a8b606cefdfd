/-
  A batch's bytes as a pure reader: where it gives up, or what it has read and how far.
-/
import Derived.Test.YtipfhcljdginoaaDoorWE6
import Derived.Test.YtipfhcljdginoaaDoorMemL
namespace Go.Proofs.YtipfhcljdginoaaDoor
open Go.RowKit

/-- A write. -/
structure Wr6 where
  key : ByteArray
  row : List UInt8
  gone : Bool
deriving Inhabited
/-- What a reader tells: the place and the error; or a value and the place behind it. -/
inductive Rr (α : Type) where
  | bad (p x : Nat) : Rr α
  | ok (v : α) (k : Nat) : Rr α

def rnum (l : List UInt8) (k m least most : Nat) : Rr Nat :=
  if l.length - k < m then .bad k 3 else if rdN ((l.drop k).take m) < least ∨ most < rdN ((l.drop k).take m) then .bad k 2 else .ok (rdN ((l.drop k).take m)) (k + m)
def rtake (l : List UInt8) (k m : Nat) : Rr (List UInt8) := if l.length - k < m then .bad k 3 else .ok ((l.drop k).take m) (k + m)
/-- 'a <= b' of texts, as the language has it. -/
def sle (a b : ByteArray) : Bool := Op.bytesLess a.toList b.toList || a.toList == b.toList
def rkey (l : List UInt8) (k : Nat) (last : ByteArray) : Rr ByteArray :=
  match rnum l k 2 1 4000 with
  | .bad p x => .bad p x
  | .ok n k1 => match rtake l k1 n with
    | .bad p x => .bad p x
    | .ok d k2 => if sle ⟨d.toArray⟩ last = true then .bad k1 2 else .ok ⟨d.toArray⟩ k2
def rrow (l : List UInt8) (k : Nat) : Rr (List UInt8) :=
  match rnum l k 2 0 4000 with
  | .bad p x => .bad p x
  | .ok n k1 => rtake l k1 n
def rwr (l : List UInt8) (k : Nat) (last : ByteArray) : Rr Wr6 :=
  match rkey l k last with
  | .bad p x => .bad p x
  | .ok key k1 => match rnum l k1 1 0 1 with
    | .bad p x => .bad p x
    | .ok g k2 => if g = 1 then .ok ⟨key, [], true⟩ k2 else match rrow l k2 with
      | .bad p x => .bad p x
      | .ok r k3 => .ok ⟨key, r, false⟩ k3
def rws (l : List UInt8) : Nat → ByteArray → Nat → Rr (List Wr6)
  | k, _, 0 => .ok [] k
  | k, last, n + 1 => match rwr l k last with
    | .bad p x => .bad p x
    | .ok x k1 => match rws l k1 x.key n with
      | .bad p y => .bad p y
      | .ok xs k2 => .ok (x :: xs) k2
def rwrites (l : List UInt8) (k : Nat) : Rr (List Wr6) :=
  match rnum l k 2 1 64 with
  | .bad p x => .bad p x
  | .ok n k1 => rws l k1 ⟨#[]⟩ n
def rbatch (l : List UInt8) : Rr (Nat × List Wr6) :=
  match rnum l 0 8 1 9223372036854775807 with
  | .bad p x => .bad p x
  | .ok n k1 => match rwrites l k1 with
    | .bad p x => .bad p x
    | .ok ws k2 => if k2 < l.length then .bad k2 2 else .ok (n, ws) k2

theorem rnum_ok {l : List UInt8} {k m a b r k' : Nat} (h : rnum l k m a b = .ok r k') (hk : k ≤ l.length) : k' = k + m ∧ k + m ≤ l.length ∧ a ≤ r ∧ r ≤ b ∧ r = rdN ((l.drop k).take m) := by
  unfold rnum at h
  split at h
  · cases h
  · split at h
    · cases h
    · injection h with h1 h2
      subst h1 h2
      exact ⟨rfl, by omega, by omega, by omega, rfl⟩
theorem rtake_ok {l : List UInt8} {k m k' : Nat} {d : List UInt8} (h : rtake l k m = .ok d k') (hk : k ≤ l.length) : k' = k + m ∧ k + m ≤ l.length ∧ d = (l.drop k).take m := by
  unfold rtake at h
  split at h
  · cases h
  · injection h with h1 h2
    subst h1 h2
    exact ⟨rfl, by omega, rfl⟩
theorem rkey_ok {l : List UInt8} {k k' : Nat} {last s : ByteArray} (h : rkey l k last = .ok s k') (hk : k ≤ l.length) : k' ≤ l.length ∧ k ≤ k' ∧ 1 ≤ s.toList.length ∧ s.toList.length ≤ 4000 := by
  unfold rkey at h
  split at h
  · cases h
  · rename_i n k1 h1
    obtain ⟨rfl, q1, q2, q3, _⟩ := rnum_ok h1 hk
    split at h
    · cases h
    · rename_i d k2 h2
      obtain ⟨rfl, q5, rfl⟩ := rtake_ok h2 q1
      split at h
      · cases h
      · injection h with h3 h4
        subst h3 h4
        have hl : ((⟨((l.drop (k + 2)).take n).toArray⟩ : ByteArray).toList).length = n := by
          rw [ByteArray.toList_eq]
          simp only [List.length_take, List.length_drop]
          omega
        exact ⟨q5, by omega, by rw [hl]; exact q2, by rw [hl]; exact q3⟩

end Go.Proofs.YtipfhcljdginoaaDoor
