/-
  Plain facts on words of 32 bits and on SHA-256, of no program.
-/
import Derived.Test.YtaanaoimnecenaaDoorPure
namespace Go.Proofs.YtaanaoimnecenaaDoor
open Go.RowKit

/-- A word as the number that a cell holds. -/
def U (a : BitVec 32) : Int := (a.toNat : Int)

theorem U_nonneg (a : BitVec 32) : 0 ≤ U a := Int.natCast_nonneg _
theorem U_lt (a : BitVec 32) : U a < 4294967296 := by unfold U; have := a.isLt; omega
theorem U_wrap (n : Int) : IntKind.u32.wrap n = U (BitVec.ofInt 32 n) := by
  unfold U
  rw [IntKind.wrap_u32', BitVec.toNat_ofInt]
  omega
theorem U_nat (n : Nat) (h : n < 4294967296) : (n : Int) = U (BitVec.ofNat 32 n) := by
  unfold U
  rw [BitVec.toNat_ofNat, Nat.mod_eq_of_lt h]
theorem U_inj {a b : BitVec 32} (h : U a = U b) : a = b := BitVec.eq_of_toNat_eq (by unfold U at h; omega)
theorem ofInt_U (a : BitVec 32) : BitVec.ofInt 32 (U a) = a := by
  apply BitVec.eq_of_toNat_eq
  unfold U
  exact ofInt_u32 _ a.isLt
theorem U_xor (a b : BitVec 32) : bits .xor .u32 (U a) (U b) = U (a ^^^ b) := by
  unfold U
  rw [u32_xor_nat _ _ a.isLt b.isLt, BitVec.toNat_xor]
theorem U_and (a b : BitVec 32) : bits .and .u32 (U a) (U b) = U (a &&& b) := by
  unfold U
  rw [u32_and_nat _ _ a.isLt b.isLt, BitVec.toNat_and]
theorem U_or (a b : BitVec 32) : bits .or .u32 (U a) (U b) = U (a ||| b) := by
  unfold U
  rw [u32_or_nat _ _ a.isLt b.isLt, BitVec.toNat_or]
theorem U_add (a b : BitVec 32) : IntKind.u32.wrap (U a + U b) = U (a + b) := by
  unfold U
  rw [IntKind.wrap_u32', BitVec.toNat_add]
  omega
theorem U_not (a : BitVec 32) : bits .xor .u32 4294967295 (U a) = U (~~~a) := by
  have e : (4294967295 : Int) = U (BitVec.allOnes 32) := by decide
  rw [e]
  exact U_xor _ _
theorem U_sub_not (a : BitVec 32) : IntKind.u32.wrap (4294967295 - U a) = U (~~~a) := by
  unfold U
  have := a.isLt
  rw [IntKind.wrap_u32', BitVec.toNat_not]
  omega
theorem U_shr (a : BitVec 32) (n : Nat) : U a / 2 ^ n = U (a >>> n) := by
  unfold U
  rw [BitVec.toNat_ushiftRight, Nat.shiftRight_eq_div_pow, Int.natCast_ediv, Int.natCast_pow]
  rfl
theorem U_shl (a : BitVec 32) (n : Nat) : IntKind.u32.wrap (U a * 2 ^ n) = U (a <<< n) := by
  unfold U
  rw [IntKind.wrap_u32', BitVec.toNat_shiftLeft, Nat.shiftLeft_eq, Int.natCast_emod, Int.natCast_mul, Int.natCast_pow]
  rfl

/-- To the right, round and round. -/
def ror (x : BitVec 32) (n : Nat) : BitVec 32 := x >>> n ||| x <<< (32 - n)
theorem ror_eq' (x : BitVec 32) (n : Nat) : x <<< (32 - n) ||| x >>> n = ror x n := BitVec.or_comm _ _

/-- The two ways to pick bits come to the same. -/
theorem choice_eq (e f g : BitVec 32) : e &&& f ^^^ ~~~e &&& g = e &&& f ||| ~~~e &&& g := by
  ext i hi
  simp
  cases e[i] <;> simp

def sm0 (a : BitVec 32) : BitVec 32 := ror a 7 ^^^ ror a 18 ^^^ a >>> 3
def sm1 (b : BitVec 32) : BitVec 32 := ror b 17 ^^^ ror b 19 ^^^ b >>> 10
def bg0 (a : BitVec 32) : BitVec 32 := ror a 2 ^^^ ror a 13 ^^^ ror a 22
def bg1 (e : BitVec 32) : BitVec 32 := ror e 6 ^^^ ror e 11 ^^^ ror e 25
def cho (e f g : BitVec 32) : BitVec 32 := e &&& f ^^^ ~~~e &&& g
def maj (a b c : BitVec 32) : BitVec 32 := a &&& b ^^^ a &&& c ^^^ b &&& c

/-- The rounds' numbers. -/
def kTab : List (BitVec 32) := [1116352408, 1899447441, 3049323471, 3921009573, 961987163, 1508970993, 2453635748, 2870763221,
  3624381080, 310598401, 607225278, 1426881987, 1925078388, 2162078206, 2614888103, 3248222580,
  3835390401, 4022224774, 264347078, 604807628, 770255983, 1249150122, 1555081692, 1996064986,
  2554220882, 2821834349, 2952996808, 3210313671, 3336571891, 3584528711, 113926993, 338241895,
  666307205, 773529912, 1294757372, 1396182291, 1695183700, 1986661051, 2177026350, 2456956037,
  2730485921, 2820302411, 3259730800, 3345764771, 3516065817, 3600352804, 4094571909, 275423344,
  430227734, 506948616, 659060556, 883997877, 958139571, 1322822218, 1537002063, 1747873779,
  1955562222, 2024104815, 2227730452, 2361852424, 2428436474, 2756734187, 3204031479, 3329325298]
/-- The words at the start. -/
structure S8 where
  a : BitVec 32
  b : BitVec 32
  c : BitVec 32
  d : BitVec 32
  e : BitVec 32
  f : BitVec 32
  g : BitVec 32
  h : BitVec 32
def iv : S8 := ⟨1779033703, 3144134277, 1013904242, 2773480762, 1359893119, 2600822924, 528734635, 1541459225⟩
def S8.list (s : S8) : List (BitVec 32) := [s.a, s.b, s.c, s.d, s.e, s.f, s.g, s.h]

/-- One round; 'x' is the round's number and its word. -/
def rnd (s : S8) (x : BitVec 32) : S8 :=
  ⟨s.h + bg1 s.e + cho s.e s.f s.g + x + (bg0 s.a + maj s.a s.b s.c), s.a, s.b, s.c, s.d + (s.h + bg1 s.e + cho s.e s.f s.g + x), s.e, s.f, s.g⟩

/-- Four bytes as a word. -/
def wd (p : List UInt8) : BitVec 32 := BitVec.ofNat 32 (rdN p)
/-- A block's own words. -/
def own16 (p : List UInt8) : Nat → List (BitVec 32)
  | 0 => []
  | k + 1 => own16 p k ++ [wd ((p.drop (4 * k)).take 4)]
/-- The next word behind those that are there. -/
def nextW (W : List (BitVec 32)) : BitVec 32 :=
  W.getD (W.length - 16) 0 + sm0 (W.getD (W.length - 15) 0) + W.getD (W.length - 7) 0 + sm1 (W.getD (W.length - 2) 0)
def sched (W : List (BitVec 32)) : Nat → List (BitVec 32)
  | 0 => W
  | k + 1 => let L := sched W k; L ++ [nextW L]
def rnds (W : List (BitVec 32)) (s : S8) : Nat → S8
  | 0 => s
  | k + 1 => rnd (rnds W s k) (kTab.getD k 0 + W.getD k 0)
def S8.add (s t : S8) : S8 := ⟨s.a + t.a, s.b + t.b, s.c + t.c, s.d + t.d, s.e + t.e, s.f + t.f, s.g + t.g, s.h + t.h⟩
/-- A block mixed in. -/
def comp (s : S8) (p : List UInt8) : S8 := s.add (rnds (sched (own16 p 16) 48) s 64)
/-- The words behind the first n blocks of q. -/
def digest (q : List UInt8) : Nat → S8
  | 0 => iv
  | k + 1 => comp (digest q k) ((q.drop (64 * k)).take 64)
def zc (n : Nat) : Nat := (119 - n % 64) % 64
/-- Filled up to whole blocks. -/
def padded (l : List UInt8) : List UInt8 := l ++ [128] ++ List.replicate (zc l.length) 0 ++ high (8 * l.length) 8
def out8 (s : S8) : List UInt8 := s.list.flatMap fun x => high x.toNat 4
def sha (l : List UInt8) : List UInt8 := out8 (digest (padded l) ((padded l).length / 64))

theorem own16_length (p : List UInt8) (k : Nat) : (own16 p k).length = k := by
  induction k with
  | zero => rfl
  | succ k ih => simp [own16, ih]
theorem sched_length (W : List (BitVec 32)) (k : Nat) : (sched W k).length = W.length + k := by
  induction k with
  | zero => rfl
  | succ k ih => simp [sched, ih]; omega
theorem zc_spec (n : Nat) : (n + 1 + zc n) % 64 = 56 := by unfold zc; omega
theorem zc_first (n k : Nat) (h : (n + 1 + k) % 64 = 56) (hk : k ≤ zc n) : k = zc n := by unfold zc at *; omega
theorem zc_lt (n : Nat) : zc n < 64 := by unfold zc; omega
theorem padded_length (l : List UInt8) : (padded l).length = l.length + 1 + zc l.length + 8 := by
  simp [padded, high_length]
  omega
theorem padded_mod (l : List UInt8) : (padded l).length % 64 = 0 := by
  rw [padded_length]
  have := zc_spec l.length
  omega
theorem digest_append (l r : List UInt8) (n : Nat) (h : 64 * n ≤ l.length) : digest (l ++ r) n = digest l n := by
  induction n with
  | zero => rfl
  | succ n ih =>
    rw [digest, digest, ih (by omega)]
    congr 1
    rw [List.drop_append_of_le_length (by omega), List.take_append_of_le_length (by rw [List.length_drop]; omega)]
theorem out8_length (s : S8) : (out8 s).length = 32 := by simp [out8, S8.list, high_length]
theorem sha_length (l : List UInt8) : (sha l).length = 32 := out8_length _

theorem word_bytes (b0 b1 b2 b3 : UInt8) :
    bits .or .u32 (bits .or .u32 (bits .or .u32 ((b0.toNat : Int) % 4294967296 * 16777216 % 4294967296) ((b1.toNat : Int) % 4294967296 * 65536 % 4294967296)) ((b2.toNat : Int) % 4294967296 * 256 % 4294967296)) ((b3.toNat : Int) % 4294967296) = U (wd [b0, b1, b2, b3]) := by
  have h0 := byte_lt b0
  have h1 := byte_lt b1
  have h2 := byte_lt b2
  have h3 := byte_lt b3
  have e0 : (b0.toNat : Int) % 4294967296 * 16777216 % 4294967296 = ((b0.toNat * 16777216 : Nat) : Int) := by omega
  have e1 : (b1.toNat : Int) % 4294967296 * 65536 % 4294967296 = ((b1.toNat * 65536 : Nat) : Int) := by omega
  have e2 : (b2.toNat : Int) % 4294967296 * 256 % 4294967296 = ((b2.toNat * 256 : Nat) : Int) := by omega
  have e3 : (b3.toNat : Int) % 4294967296 = ((b3.toNat : Nat) : Int) := by omega
  have j1 : b0.toNat * 16777216 ||| b1.toNat * 65536 = b0.toNat * 16777216 + b1.toNat * 65536 := nat_join 24 _ _ (by omega) (by omega)
  have j2 : (b0.toNat * 16777216 + b1.toNat * 65536) ||| b2.toNat * 256 = b0.toNat * 16777216 + b1.toNat * 65536 + b2.toNat * 256 := nat_join 16 _ _ (by omega) (by omega)
  have j3 : (b0.toNat * 16777216 + b1.toNat * 65536 + b2.toNat * 256) ||| b3.toNat = b0.toNat * 16777216 + b1.toNat * 65536 + b2.toNat * 256 + b3.toNat := nat_join 8 _ _ (by omega) (by omega)
  have e : rdN [b0, b1, b2, b3] = b0.toNat * 16777216 + b1.toNat * 65536 + b2.toNat * 256 + b3.toNat := by
    simp only [rdN, List.foldl_cons, List.foldl_nil]
    omega
  rw [e0, e1, e2, e3, u32_or_nat _ _ (by omega) (by omega), j1, u32_or_nat _ _ (by omega) (by omega), j2, u32_or_nat _ _ (by omega) (by omega), j3, ← e, U_nat _ (by rw [e]; omega)]
  rfl
theorem getD_drop4 (p : List UInt8) (n : Nat) (h : n < p.length) : p.getD n 0 = p[n] := by
  rw [List.getD_eq_getElem?_getD, List.getElem?_eq_getElem h]
  rfl
theorem take4 (p : List UInt8) (k : Nat) (h : 4 * k + 4 ≤ p.length) : (p.drop (4 * k)).take 4 = [p.getD (4 * k) 0, p.getD (4 * k + 1) 0, p.getD (4 * k + 2) 0, p.getD (4 * k + 3) 0] := by
  rw [getD_drop4 p _ (by omega), getD_drop4 p _ (by omega), getD_drop4 p _ (by omega), getD_drop4 p _ (by omega)]
  rw [List.drop_eq_getElem_cons (by omega), List.drop_eq_getElem_cons (by omega), List.drop_eq_getElem_cons (by omega), List.drop_eq_getElem_cons (by omega)]
  rfl
theorem set_take (L : List (BitVec 32)) (k : Nat) (x : BitVec 32) (h : k < L.length) : (L.set k x).take (k + 1) = L.take k ++ [x] := by
  rw [List.take_succ_eq_append_getElem (by simpa using h)]
  congr 1
  · rw [List.take_set_of_le (Nat.le_refl _)]
  · simp
theorem getD_take (L : List (BitVec 32)) (k j : Nat) (h : j < k) : (L.take k).getD j 0 = L.getD j 0 := by
  simp [List.getD_eq_getElem?_getD, List.getElem?_take_of_lt h]

set_option maxRecDepth 100000 in
/-- The document's example. -/
theorem sha_abc : (sha [97, 98, 99]).take 4 = [186, 120, 22, 191] := by decide +kernel

end Go.Proofs.YtaanaoimnecenaaDoor
