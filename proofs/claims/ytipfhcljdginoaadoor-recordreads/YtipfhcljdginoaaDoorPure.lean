/-
  Plain facts on bytes and numbers, of no program.
-/
import Derived.WalkKit
import Derived.Laws.BitsAllLaws
import Derived.IntWalk
namespace Go.Proofs.YtipfhcljdginoaaDoor
open Go.RowKit

/-- A number's lowest bytes, the highest of them first. -/
def high (n : Nat) : Nat → List UInt8
  | 0 => []
  | k + 1 => UInt8.ofNat (n / 2 ^ (8 * k)) :: high n k

theorem high_byte (n k : Nat) : (n : Int) / 2 ^ (8 * k) % 256 = ((UInt8.ofNat (n / 2 ^ (8 * k))).toNat : Int) := by
  rw [UInt8.toNat_ofNat']
  rw [Int.natCast_emod, Int.natCast_ediv, Int.natCast_pow]
  rfl

theorem high_length (n k : Nat) : (high n k).length = k := by
  induction k with
  | zero => rfl
  | succ k ih => simp [high, ih]

/-- Bytes as one number, the highest first. -/
def rdN (l : List UInt8) : Nat := l.foldl (fun n b => n * 256 + b.toNat) 0

theorem rdN_snoc (l : List UInt8) (b : UInt8) : rdN (l ++ [b]) = rdN l * 256 + b.toNat := by simp [rdN]

theorem byte_lt (b : UInt8) : b.toNat < 256 := b.toNat_lt

theorem fold_from (l : List UInt8) : ∀ n, l.foldl (fun n b => n * 256 + b.toNat) n = n * 256 ^ l.length + rdN l := by
  unfold rdN
  induction l with
  | nil => intro n; simp
  | cons b l ih =>
    intro n
    rw [List.foldl_cons, List.foldl_cons, ih, ih (0 * 256 + b.toNat), List.length_cons, Nat.pow_succ, Nat.add_mul, Nat.zero_mul, Nat.zero_add, Nat.mul_assoc, Nat.mul_comm 256, Nat.add_assoc]

theorem rdN_cons (b : UInt8) (l : List UInt8) : rdN (b :: l) = b.toNat * 256 ^ l.length + rdN l := by
  show (b :: l).foldl _ 0 = _
  rw [List.foldl_cons, fold_from]
  simp

theorem rdN_lt (l : List UInt8) : rdN l < 256 ^ l.length := by
  induction l with
  | nil => simp [rdN]
  | cons b l ih =>
    rw [rdN_cons, List.length_cons, Nat.pow_succ]
    have hb := byte_lt b
    have h1 : b.toNat * 256 ^ l.length ≤ 255 * 256 ^ l.length := Nat.mul_le_mul_right _ (by omega)
    omega

theorem rdN_lt' (l : List UInt8) (k : Nat) (h : l.length ≤ k) : rdN l < 256 ^ k :=
  Nat.lt_of_lt_of_le (rdN_lt l) (Nat.pow_le_pow_right (by omega) h)

/-- What was written is read. -/
theorem rdN_high (n k : Nat) : rdN (high n k) = n % 2 ^ (8 * k) := by
  induction k with
  | zero => simp [high, rdN, Nat.mod_one]
  | succ k ih =>
    have e8 : (256 : Nat) ^ k = 2 ^ (8 * k) := by rw [Nat.pow_mul]
    rw [high, rdN_cons, ih, high_length, e8, UInt8.toNat_ofNat', Nat.mul_add, Nat.pow_add]
    show n / 2 ^ (8 * k) % 256 * 2 ^ (8 * k) + n % 2 ^ (8 * k) = n % (2 ^ (8 * k) * 256)
    rw [Nat.mod_mul, Nat.mul_comm (2 ^ (8 * k))]
    omega

theorem high_mod (n m k : Nat) (h : n % 2 ^ (8 * k) = m % 2 ^ (8 * k)) : high n k = high m k := by
  induction k with
  | zero => rfl
  | succ k ih =>
    have hk : (2 : Nat) ^ (8 * (k + 1)) = 2 ^ (8 * k) * 256 := by rw [Nat.mul_add, Nat.pow_add]
    rw [hk] at h
    have h1 : n % 2 ^ (8 * k) = m % 2 ^ (8 * k) := by
      have := congrArg (· % 2 ^ (8 * k)) h
      simpa [Nat.mod_mul_right_mod] using this
    have h2 : n / 2 ^ (8 * k) % 256 = m / 2 ^ (8 * k) % 256 := by
      have := congrArg (· / 2 ^ (8 * k)) h
      simpa [Nat.mod_mul_right_div_self] using this
    rw [high, high, ih h1]
    congr 1
    apply UInt8.toNat_inj.1
    rw [UInt8.toNat_ofNat', UInt8.toNat_ofNat']
    exact h2

/-- What is read is written. -/
theorem high_rdN (l : List UInt8) : high (rdN l) l.length = l := by
  induction l with
  | nil => rfl
  | cons b l ih =>
    have e8 : (256 : Nat) ^ l.length = 2 ^ (8 * l.length) := by rw [Nat.pow_mul]
    have hlt := rdN_lt l
    rw [e8] at hlt
    rw [rdN_cons, List.length_cons, high, e8]
    have h1 : high (b.toNat * 2 ^ (8 * l.length) + rdN l) l.length = high (rdN l) l.length := high_mod _ _ _ (by rw [Nat.mul_comm, Nat.mul_add_mod])
    rw [h1, ih]
    congr 1
    rw [Nat.mul_comm, Nat.mul_add_div (Nat.pow_pos (by omega)), Nat.div_eq_of_lt hlt, Nat.add_zero]
    exact UInt8.ofNat_toNat

theorem or_high (x b : Nat) (hx : x < 72057594037927936) (hb : b < 256) : bits .or .u64 (IntKind.u64.wrap ((x : Int) * 256)) (IntKind.u64.wrap (b : Int)) = ((x * 256 + b : Nat) : Int) := by
  rw [IntWalk.u64_in _ (by omega), IntWalk.u64_in _ (by omega)]
  have e : ((x : Int) * 256) = ((x * 256 : Nat) : Int) := by rw [Int.natCast_mul]; rfl
  rw [e, u64_or_nat _ _ (by omega) (by omega)]
  congr 1
  have := Nat.shiftLeft_add_eq_or_of_lt (a := x) (i := 8) (b := b) hb
  rw [Nat.shiftLeft_eq] at this
  exact this.symm

theorem sum_high (x b : Nat) (hx : x < 72057594037927936) (hb : b < 256) : IntKind.u64.wrap (IntKind.u64.wrap (256 * (x : Int)) + IntKind.u64.wrap (b : Int)) = ((x * 256 + b : Nat) : Int) := by
  rw [IntWalk.u64_in (256 * (x : Int)) (by omega), IntWalk.u64_in (b : Int) (by omega), IntWalk.u64_in _ (by omega)]
  omega

/-- A value: its kind, its number, its text. -/
structure V where
  k : Int
  n : Int
  s : ByteArray

theorem V.ext' {a b : V} (h1 : a.k = b.k) (h2 : a.n = b.n) (h3 : a.s = b.s) : a = b := by
  cases a; cases b; simp_all

/-- Nothing. -/
def V.none : V := ⟨0, 0, ⟨#[]⟩⟩

/-- Is it a value that is right? -/
def V.Ok (v : V) : Prop :=
  (v.k = 0 ∧ v.n = 0 ∧ v.s = ⟨#[]⟩) ∨ (v.k = 1 ∧ v.s = ⟨#[]⟩ ∧ -9223372036854775808 ≤ v.n ∧ v.n ≤ 9223372036854775807) ∨ (v.k = 2 ∧ v.n = 0 ∧ v.s.size ≤ 200)

def V.eqB (a b : V) : Bool := decide (a.k = b.k ∧ a.n = b.n ∧ a.s.toList = b.s.toList)
def V.okB (a : V) : Bool := decide (if a.k = 0 then a.n = 0 ∧ a.s.size = 0 else if a.k = 1 then a.s.size = 0 else a.k = 2 ∧ a.n = 0 ∧ a.s.size ≤ 200)

theorem toList_nil (s : ByteArray) : s.toList = [] ↔ s.size = 0 := by
  rw [ByteArray.toList_eq]
  constructor
  · intro h
    have := congrArg List.length h
    simpa using this
  · intro h
    exact List.eq_nil_of_length_eq_zero (by simpa using h)
theorem toList_isEmpty (s : ByteArray) : s.toList.isEmpty = decide (s.size = 0) := by
  rw [Bool.eq_iff_iff, List.isEmpty_iff, toList_nil]
  simp
theorem toList_inj {a b : ByteArray} : a.toList = b.toList ↔ a = b := by
  rw [ByteArray.toList_eq, ByteArray.toList_eq]
  constructor
  · intro h
    cases a; cases b
    simp only [ByteArray.mk.injEq]
    exact Array.ext' h
  · rintro rfl; rfl
theorem V.eqB_iff (a b : V) : V.eqB a b = true ↔ a = b := by
  unfold V.eqB
  rw [decide_eq_true_iff, toList_inj]
  constructor
  · rintro ⟨h1, h2, h3⟩; exact V.ext' h1 h2 h3
  · rintro rfl; exact ⟨rfl, rfl, rfl⟩
theorem V.okB0 (a : V) (h : (a.k == 0) = true) : V.eqB a V.none = V.okB a := by
  have h0 : a.k = 0 := by simpa using h
  unfold V.eqB V.okB V.none
  simp [h0, toList_nil]
theorem V.okB1 (a : V) (_h0 : (a.k == 0) = false) (h : (a.k == 1) = true) : a.s.toList.isEmpty = V.okB a := by
  have h1 : a.k = 1 := by simpa using h
  rw [toList_isEmpty]
  unfold V.okB
  simp [h1]
theorem V.okB2 (a : V) (h : (a.k == 2) = true) (hn : a.n = 0) : decide ((a.s.size : Int) ≤ 200) = V.okB a := by
  have h2 : a.k = 2 := by simpa using h
  unfold V.okB
  simp [h2, hn]
  omega
theorem V.okB2n (a : V) (h : (a.k == 2) = true) (hn : ¬ a.n = 0) : false = V.okB a := by
  have h2 : a.k = 2 := by simpa using h
  unfold V.okB
  simp [h2, hn]
theorem V.okB3 (a : V) (h0 : (a.k == 0) = false) (h1 : (a.k == 1) = false) (h2 : (a.k == 2) = false) : false = V.okB a := by
  simp at h0 h1 h2
  unfold V.okB
  simp [h0, h1, h2]
theorem V.okB0a (a : V) (h : (a.k == 0) = true) (hn : a.n = 0) : ((a.s.size : Int) == 0) = V.okB a := by
  have h0 : a.k = 0 := by simpa using h
  unfold V.okB
  rw [Bool.eq_iff_iff]
  simp [h0, hn]
theorem V.okB0n (a : V) (h : (a.k == 0) = true) (hn : ¬ a.n = 0) : false = V.okB a := by
  have h0 : a.k = 0 := by simpa using h
  unfold V.okB
  simp [h0, hn]
theorem V.okB1a (a : V) (_h0 : (a.k == 0) = false) (h : (a.k == 1) = true) : ((a.s.size : Int) == 0) = V.okB a := by
  have h1 : a.k = 1 := by simpa using h
  unfold V.okB
  rw [Bool.eq_iff_iff]
  simp [h1]
theorem V.okB3n (a : V) (h0 : (a.k == 0) = false) (h1 : (a.k == 1) = false) (h2 : ¬ a.k = 2) : false = V.okB a :=
  V.okB3 a h0 h1 (by simpa using h2)
theorem V.okB2' (a : V) (h : a.k = 2) (hn : a.n = 0) : decide ((a.s.size : Int) ≤ 200) = V.okB a := V.okB2 a (by simp [h]) hn
theorem V.okB2n' (a : V) (h : a.k = 2) (hn : ¬ a.n = 0) : false = V.okB a := V.okB2n a (by simp [h]) hn
theorem V.okB_of {a : V} (h : a.Ok) : V.okB a = true := by
  unfold V.okB
  rcases h with ⟨h1, h2, h3⟩ | ⟨h1, h2, _⟩ | ⟨h1, h2, h3⟩
  · simp [h1, h2, h3]; rfl
  · simp [h1, h2]; rfl
  · simp [h1, h2, h3]

def u64N (n : Int) : Nat := (n % 18446744073709551616).toNat
theorem u64N_eq (n : Int) : IntKind.u64.wrap n = (u64N n : Int) := by
  rw [IntKind.wrap_u64]
  unfold u64N
  omega
theorem u64N_lt (n : Int) : u64N n < 18446744073709551616 := by unfold u64N; omega
def i64Z (n : Nat) : Int := if n < 9223372036854775808 then (n : Int) else (n : Int) - 18446744073709551616
theorem i64Z_eq (n : Nat) (h : n < 18446744073709551616) : wrap64 (n : Int) = i64Z n := by
  unfold wrap64 i64Z
  split <;> omega

/-- Its bytes. -/
def enc (v : V) : List UInt8 :=
  if v.k = 1 then 1 :: high (u64N v.n) 8 else if v.k = 2 then 2 :: (high v.s.size 2 ++ v.s.data.toList) else [0]

/-- What stands behind a kind's byte: the value, how many bytes it has there, the error's number. -/
def decNum (p : List UInt8) : V × Nat × Int := if p.length < 8 then (V.none, 0, 3) else (⟨1, i64Z (rdN (p.take 8)), ⟨#[]⟩⟩, 8, 0)
def decText (p : List UInt8) : V × Nat × Int :=
  if p.length < 2 then (V.none, 0, 3)
  else if 200 < rdN (p.take 2) then (V.none, 0, 2)
  else if p.length < 2 + rdN (p.take 2) then (V.none, 0, 3)
  else (⟨2, 0, ⟨((p.drop 2).take (rdN (p.take 2))).toArray⟩⟩, 2 + rdN (p.take 2), 0)
def decKind (b : UInt8) (p : List UInt8) : V × Nat × Int :=
  if b = 0 then (V.none, 0, 0) else if b = 1 then decNum p else if b = 2 then decText p else (V.none, 0, 2)
/-- What bytes begin with: the value, how many bytes it has, the error's number. -/
def dec : List UInt8 → V × Nat × Int
  | [] => (V.none, 0, 3)
  | b :: p => ((decKind b p).1, if (decKind b p).2.2 = 0 then (decKind b p).2.1 + 1 else 0, (decKind b p).2.2)

theorem decKind_err (b : UInt8) (p : List UInt8) (h : (decKind b p).2.2 ≠ 0) : (decKind b p).1 = V.none := by
  unfold decKind decNum decText at *
  split
  · rfl
  · split
    · split
      · rfl
      · simp_all
    · split
      · split
        · rfl
        · split
          · rfl
          · split
            · rfl
            · simp_all
      · rfl

end Go.Proofs.YtipfhcljdginoaaDoor
