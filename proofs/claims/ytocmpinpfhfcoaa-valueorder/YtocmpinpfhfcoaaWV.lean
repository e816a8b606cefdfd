/-
  The walks of what makes values of words, and keys of values.
-/
import Derived.Test.YtocmpinpfhfcoaaMemV
namespace Go.Proofs.Ytocmpinpfhfcoaa
open Go.RowKit

/-- A number's eight bytes in a key: the highest bit is turned. -/
def keyNum (n : Int) : List UInt8 := high (u64N (n + 9223372036854775808)) 8
/-- A text's bytes in a key. -/
def keyText : List UInt8 → List UInt8
  | [] => []
  | b :: l => if b = 0 then 0 :: 255 :: keyText l else b :: keyText l
/-- A value's bytes in a key. -/
def keyOne (v : V) : List UInt8 := if v.k = 0 then [1] else if v.k = 1 then 2 :: keyNum v.n else 3 :: (keyText v.s.data.toList ++ [0, 1])
def keyOf (l : List V) : List UInt8 := l.flatMap keyOne

theorem keyText_append (l r : List UInt8) : keyText (l ++ r) = keyText l ++ keyText r := by
  induction l with
  | nil => rfl
  | cons b l ih =>
    rw [List.cons_append, keyText, keyText, ih]
    split <;> simp
theorem keyText_len (l : List UInt8) : (keyText l).length ≤ 2 * l.length := by
  induction l with
  | nil => simp [keyText]
  | cons b l ih =>
    rw [keyText]
    split <;> simp <;> omega
theorem keyOne_len (v : V) (h : v.Ok) : (keyOne v).length ≤ 500 := by
  rcases h.cases with rfl | ⟨n, rfl, _, _⟩ | ⟨s, rfl, hs⟩
  · decide
  · show (2 :: keyNum n).length ≤ 500
    simp [keyNum, high_length]
  · show (3 :: (keyText s.data.toList ++ [0, 1])).length ≤ 500
    have := keyText_len s.data.toList
    have h2 : s.data.toList.length = s.size := by simp
    simp
    omega
theorem keyOf_len (l : List V) (h : ∀ v ∈ l, v.Ok) : (keyOf l).length ≤ 500 * l.length := by
  induction l with
  | nil => simp [keyOf]
  | cons v l ih =>
    have h1 := keyOne_len v (h v (by simp))
    have h2 := ih fun x hx => h x (by simp [hx])
    show (keyOne v ++ keyOf l).length ≤ _
    rw [List.length_append, List.length_cons]
    omega
theorem keyOf_append (l r : List V) : keyOf (l ++ r) = keyOf l ++ keyOf r := by simp [keyOf]

theorem xor128 (b : UInt8) : bits .xor .u8 (b.toNat : Int) 128 = ((b ^^^ 128).toNat : Int) := by
  have := u8_xor_nat b.toNat 128 (byte_lt b) (by omega)
  rw [show ((128 : Nat) : Int) = 128 from rfl] at this
  rw [this, UInt8.toNat_xor]
  rfl

theorem xor128_nat : ∀ a, a < 256 → (a + 128) % 256 = a ^^^ 128 := by decide +kernel
theorem keyNum_eq (n : Int) : keyNum n = (UInt8.ofNat (u64N n / 2 ^ (8 * 7)) ^^^ 128) :: high (u64N n) 7 := by
  unfold keyNum
  have hm : u64N (n + 9223372036854775808) = (u64N n + 9223372036854775808) % 18446744073709551616 := by unfold u64N; omega
  have hlt := u64N_lt n
  rw [hm]
  generalize u64N n = m at *
  show UInt8.ofNat ((m + 9223372036854775808) % 18446744073709551616 / 2 ^ (8 * 7)) :: high ((m + 9223372036854775808) % 18446744073709551616) 7 = _
  have h7 : high ((m + 9223372036854775808) % 18446744073709551616) 7 = high m 7 := high_mod _ _ _ (by
    show (m + 9223372036854775808) % 18446744073709551616 % 72057594037927936 = m % 72057594037927936
    omega)
  rw [h7]
  congr 1
  apply UInt8.toNat_inj.1
  rw [UInt8.toNat_xor, UInt8.toNat_ofNat', UInt8.toNat_ofNat']
  show (m + 9223372036854775808) % 18446744073709551616 / 72057594037927936 % 256 = (m / 72057594037927936 % 256) ^^^ 128
  rw [← xor128_nat _ (by omega)]
  omega

theorem key_zero : keyOf [⟨1, 0, ⟨#[]⟩⟩] = [2, 128, 0, 0, 0, 0, 0, 0, 0] := by decide +kernel
theorem key_nul : keyOf [⟨2, 0, ⟨#[0]⟩⟩] = [3, 0, 255, 0, 1] := by decide +kernel

end Go.Proofs.Ytocmpinpfhfcoaa
