/-
  Texts of one claim, joined.
-/
import Derived.Test.YtpbjianhkjjgkaaDoorZ01
import Derived.Laws.ShiftsVarLaws
import Derived.Laws.Cells
import Derived.Laws.IdiomCopy
import Derived.Deep.DeepCutAuto
import Derived.Deep.WholeRow
namespace Go.Proofs.YtpbjianhkjjgkaaDoor
open Go.RowKit

/-- A word as the number that a cell holds. -/
def U (a : BitVec 32) : Int := (a.toNat : Int)

theorem U_nonneg (a : BitVec 32) : 0 ≤ U a := Int.natCast_nonneg _
theorem U_lt (a : BitVec 32) : U a < 4294967296 := by unfold U; have := a.isLt; omega
theorem U_wrap (n : Int) : IntKind.u32.wrap n = U (BitVec.ofInt 32 n) := by
  unfold U
  rw [IntKind.wrap_u32', BitVec.toNat_ofInt]
  omega
theorem U_nat (n : Nat) (h : n < 4294967296) : (n : Int) = U (BitVec.ofNat 32 n) := by
  unfold U
  rw [BitVec.toNat_ofNat, Nat.mod_eq_of_lt h]
theorem U_inj {a b : BitVec 32} (h : U a = U b) : a = b := BitVec.eq_of_toNat_eq (by unfold U at h; omega)
theorem ofInt_U (a : BitVec 32) : BitVec.ofInt 32 (U a) = a := by
  apply BitVec.eq_of_toNat_eq
  unfold U
  exact ofInt_u32 _ a.isLt
theorem U_xor (a b : BitVec 32) : bits .xor .u32 (U a) (U b) = U (a ^^^ b) := by
  unfold U
  rw [u32_xor_nat _ _ a.isLt b.isLt, BitVec.toNat_xor]
theorem U_and (a b : BitVec 32) : bits .and .u32 (U a) (U b) = U (a &&& b) := by
  unfold U
  rw [u32_and_nat _ _ a.isLt b.isLt, BitVec.toNat_and]
theorem U_or (a b : BitVec 32) : bits .or .u32 (U a) (U b) = U (a ||| b) := by
  unfold U
  rw [u32_or_nat _ _ a.isLt b.isLt, BitVec.toNat_or]
theorem U_add (a b : BitVec 32) : IntKind.u32.wrap (U a + U b) = U (a + b) := by
  unfold U
  rw [IntKind.wrap_u32', BitVec.toNat_add]
  omega
theorem U_not (a : BitVec 32) : bits .xor .u32 4294967295 (U a) = U (~~~a) := by
  have e : (4294967295 : Int) = U (BitVec.allOnes 32) := by decide
  rw [e]
  exact U_xor _ _
theorem U_sub_not (a : BitVec 32) : IntKind.u32.wrap (4294967295 - U a) = U (~~~a) := by
  unfold U
  have := a.isLt
  rw [IntKind.wrap_u32', BitVec.toNat_not]
  omega
theorem U_shr (a : BitVec 32) (n : Nat) : U a / 2 ^ n = U (a >>> n) := by
  unfold U
  rw [BitVec.toNat_ushiftRight, Nat.shiftRight_eq_div_pow, Int.natCast_ediv, Int.natCast_pow]
  rfl
theorem U_shl (a : BitVec 32) (n : Nat) : IntKind.u32.wrap (U a * 2 ^ n) = U (a <<< n) := by
  unfold U
  rw [IntKind.wrap_u32', BitVec.toNat_shiftLeft, Nat.shiftLeft_eq, Int.natCast_emod, Int.natCast_mul, Int.natCast_pow]
  rfl

/-- To the right, round and round. -/
def ror (x : BitVec 32) (n : Nat) : BitVec 32 := x >>> n ||| x <<< (32 - n)
theorem ror_eq' (x : BitVec 32) (n : Nat) : x <<< (32 - n) ||| x >>> n = ror x n := BitVec.or_comm _ _

/-- The two ways to pick bits come to the same. -/
theorem choice_eq (e f g : BitVec 32) : e &&& f ^^^ ~~~e &&& g = e &&& f ||| ~~~e &&& g := by
  ext i hi
  simp
  cases e[i] <;> simp

def sm0 (a : BitVec 32) : BitVec 32 := ror a 7 ^^^ ror a 18 ^^^ a >>> 3
def sm1 (b : BitVec 32) : BitVec 32 := ror b 17 ^^^ ror b 19 ^^^ b >>> 10
def bg0 (a : BitVec 32) : BitVec 32 := ror a 2 ^^^ ror a 13 ^^^ ror a 22
def bg1 (e : BitVec 32) : BitVec 32 := ror e 6 ^^^ ror e 11 ^^^ ror e 25
def cho (e f g : BitVec 32) : BitVec 32 := e &&& f ^^^ ~~~e &&& g
def maj (a b c : BitVec 32) : BitVec 32 := a &&& b ^^^ a &&& c ^^^ b &&& c

/-- The rounds' numbers. -/
def kTab : List (BitVec 32) := [1116352408, 1899447441, 3049323471, 3921009573, 961987163, 1508970993, 2453635748, 2870763221,
  3624381080, 310598401, 607225278, 1426881987, 1925078388, 2162078206, 2614888103, 3248222580,
  3835390401, 4022224774, 264347078, 604807628, 770255983, 1249150122, 1555081692, 1996064986,
  2554220882, 2821834349, 2952996808, 3210313671, 3336571891, 3584528711, 113926993, 338241895,
  666307205, 773529912, 1294757372, 1396182291, 1695183700, 1986661051, 2177026350, 2456956037,
  2730485921, 2820302411, 3259730800, 3345764771, 3516065817, 3600352804, 4094571909, 275423344,
  430227734, 506948616, 659060556, 883997877, 958139571, 1322822218, 1537002063, 1747873779,
  1955562222, 2024104815, 2227730452, 2361852424, 2428436474, 2756734187, 3204031479, 3329325298]
/-- The words at the start. -/
structure S8 where
  a : BitVec 32
  b : BitVec 32
  c : BitVec 32
  d : BitVec 32
  e : BitVec 32
  f : BitVec 32
  g : BitVec 32
  h : BitVec 32
def iv : S8 := ⟨1779033703, 3144134277, 1013904242, 2773480762, 1359893119, 2600822924, 528734635, 1541459225⟩
def S8.list (s : S8) : List (BitVec 32) := [s.a, s.b, s.c, s.d, s.e, s.f, s.g, s.h]

/-- One round; 'x' is the round's number and its word. -/
def rnd (s : S8) (x : BitVec 32) : S8 :=
  ⟨s.h + bg1 s.e + cho s.e s.f s.g + x + (bg0 s.a + maj s.a s.b s.c), s.a, s.b, s.c, s.d + (s.h + bg1 s.e + cho s.e s.f s.g + x), s.e, s.f, s.g⟩

/-- Four bytes as a word. -/
def wd (p : List UInt8) : BitVec 32 := BitVec.ofNat 32 (rdN p)
/-- A block's own words. -/
def own16 (p : List UInt8) : Nat → List (BitVec 32)
  | 0 => []
  | k + 1 => own16 p k ++ [wd ((p.drop (4 * k)).take 4)]
/-- The next word behind those that are there. -/
def nextW (W : List (BitVec 32)) : BitVec 32 :=
  W.getD (W.length - 16) 0 + sm0 (W.getD (W.length - 15) 0) + W.getD (W.length - 7) 0 + sm1 (W.getD (W.length - 2) 0)
def sched (W : List (BitVec 32)) : Nat → List (BitVec 32)
  | 0 => W
  | k + 1 => let L := sched W k; L ++ [nextW L]
def rnds (W : List (BitVec 32)) (s : S8) : Nat → S8
  | 0 => s
  | k + 1 => rnd (rnds W s k) (kTab.getD k 0 + W.getD k 0)
def S8.add (s t : S8) : S8 := ⟨s.a + t.a, s.b + t.b, s.c + t.c, s.d + t.d, s.e + t.e, s.f + t.f, s.g + t.g, s.h + t.h⟩
/-- A block mixed in. -/
def comp (s : S8) (p : List UInt8) : S8 := s.add (rnds (sched (own16 p 16) 48) s 64)
/-- The words behind the first n blocks of q. -/
def digest (q : List UInt8) : Nat → S8
  | 0 => iv
  | k + 1 => comp (digest q k) ((q.drop (64 * k)).take 64)
def zc (n : Nat) : Nat := (119 - n % 64) % 64
/-- Filled up to whole blocks. -/
def padded (l : List UInt8) : List UInt8 := l ++ [128] ++ List.replicate (zc l.length) 0 ++ high (8 * l.length) 8
def out8 (s : S8) : List UInt8 := s.list.flatMap fun x => high x.toNat 4
def sha (l : List UInt8) : List UInt8 := out8 (digest (padded l) ((padded l).length / 64))

theorem own16_length (p : List UInt8) (k : Nat) : (own16 p k).length = k := by
  induction k with
  | zero => rfl
  | succ k ih => simp [own16, ih]
theorem sched_length (W : List (BitVec 32)) (k : Nat) : (sched W k).length = W.length + k := by
  induction k with
  | zero => rfl
  | succ k ih => simp [sched, ih]; omega
theorem zc_spec (n : Nat) : (n + 1 + zc n) % 64 = 56 := by unfold zc; omega
theorem zc_first (n k : Nat) (h : (n + 1 + k) % 64 = 56) (hk : k ≤ zc n) : k = zc n := by unfold zc at *; omega
theorem zc_lt (n : Nat) : zc n < 64 := by unfold zc; omega
theorem padded_length (l : List UInt8) : (padded l).length = l.length + 1 + zc l.length + 8 := by
  simp [padded, high_length]
  omega
theorem padded_mod (l : List UInt8) : (padded l).length % 64 = 0 := by
  rw [padded_length]
  have := zc_spec l.length
  omega
theorem digest_append (l r : List UInt8) (n : Nat) (h : 64 * n ≤ l.length) : digest (l ++ r) n = digest l n := by
  induction n with
  | zero => rfl
  | succ n ih =>
    rw [digest, digest, ih (by omega)]
    congr 1
    rw [List.drop_append_of_le_length (by omega), List.take_append_of_le_length (by rw [List.length_drop]; omega)]
theorem out8_length (s : S8) : (out8 s).length = 32 := by simp [out8, S8.list, high_length]
theorem sha_length (l : List UInt8) : (sha l).length = 32 := out8_length _

theorem word_bytes (b0 b1 b2 b3 : UInt8) :
    bits .or .u32 (bits .or .u32 (bits .or .u32 ((b0.toNat : Int) % 4294967296 * 16777216 % 4294967296) ((b1.toNat : Int) % 4294967296 * 65536 % 4294967296)) ((b2.toNat : Int) % 4294967296 * 256 % 4294967296)) ((b3.toNat : Int) % 4294967296) = U (wd [b0, b1, b2, b3]) := by
  have h0 := byte_lt b0
  have h1 := byte_lt b1
  have h2 := byte_lt b2
  have h3 := byte_lt b3
  have e0 : (b0.toNat : Int) % 4294967296 * 16777216 % 4294967296 = ((b0.toNat * 16777216 : Nat) : Int) := by omega
  have e1 : (b1.toNat : Int) % 4294967296 * 65536 % 4294967296 = ((b1.toNat * 65536 : Nat) : Int) := by omega
  have e2 : (b2.toNat : Int) % 4294967296 * 256 % 4294967296 = ((b2.toNat * 256 : Nat) : Int) := by omega
  have e3 : (b3.toNat : Int) % 4294967296 = ((b3.toNat : Nat) : Int) := by omega
  have j1 : b0.toNat * 16777216 ||| b1.toNat * 65536 = b0.toNat * 16777216 + b1.toNat * 65536 := nat_join 24 _ _ (by omega) (by omega)
  have j2 : (b0.toNat * 16777216 + b1.toNat * 65536) ||| b2.toNat * 256 = b0.toNat * 16777216 + b1.toNat * 65536 + b2.toNat * 256 := nat_join 16 _ _ (by omega) (by omega)
  have j3 : (b0.toNat * 16777216 + b1.toNat * 65536 + b2.toNat * 256) ||| b3.toNat = b0.toNat * 16777216 + b1.toNat * 65536 + b2.toNat * 256 + b3.toNat := nat_join 8 _ _ (by omega) (by omega)
  have e : rdN [b0, b1, b2, b3] = b0.toNat * 16777216 + b1.toNat * 65536 + b2.toNat * 256 + b3.toNat := by
    simp only [rdN, List.foldl_cons, List.foldl_nil]
    omega
  rw [e0, e1, e2, e3, u32_or_nat _ _ (by omega) (by omega), j1, u32_or_nat _ _ (by omega) (by omega), j2, u32_or_nat _ _ (by omega) (by omega), j3, ← e, U_nat _ (by rw [e]; omega)]
  rfl
theorem getD_drop4 (p : List UInt8) (n : Nat) (h : n < p.length) : p.getD n 0 = p[n] := by
  rw [List.getD_eq_getElem?_getD, List.getElem?_eq_getElem h]
  rfl
theorem take4 (p : List UInt8) (k : Nat) (h : 4 * k + 4 ≤ p.length) : (p.drop (4 * k)).take 4 = [p.getD (4 * k) 0, p.getD (4 * k + 1) 0, p.getD (4 * k + 2) 0, p.getD (4 * k + 3) 0] := by
  rw [getD_drop4 p _ (by omega), getD_drop4 p _ (by omega), getD_drop4 p _ (by omega), getD_drop4 p _ (by omega)]
  rw [List.drop_eq_getElem_cons (by omega), List.drop_eq_getElem_cons (by omega), List.drop_eq_getElem_cons (by omega), List.drop_eq_getElem_cons (by omega)]
  rfl
theorem set_take (L : List (BitVec 32)) (k : Nat) (x : BitVec 32) (h : k < L.length) : (L.set k x).take (k + 1) = L.take k ++ [x] := by
  rw [List.take_succ_eq_append_getElem (by simpa using h)]
  congr 1
  · rw [List.take_set_of_le (Nat.le_refl _)]
  · simp
theorem getD_take (L : List (BitVec 32)) (k j : Nat) (h : j < k) : (L.take k).getD j 0 = L.getD j 0 := by
  simp [List.getD_eq_getElem?_getD, List.getElem?_take_of_lt h]

set_option maxRecDepth 100000 in
/-- The document's example. -/
theorem sha_abc : (sha [97, 98, 99]).take 4 = [186, 120, 22, 191] := by decide +kernel

end Go.Proofs.YtpbjianhkjjgkaaDoor

namespace Go.Proofs.YtpbjianhkjjgkaaDoor
open Go.RowKit

theorem neg_and31 (n : Nat) (h0 : 0 < n) (h : n < 32) : bits .and .u64 (IntKind.u64.wrap (-(n : Int))) 31 = ((32 - n : Nat) : Int) := by
  have e : IntKind.u64.wrap (-(n : Int)) = ((18446744073709551616 - n : Nat) : Int) := by
    simp only [IntKind.wrap, IntKind.bits, IntKind.signed, Bool.false_and]
    have : ((2 : Int) ^ 64) = 18446744073709551616 := by decide
    rw [this]
    simp
    omega
  rw [e]
  have := u64_and_nat (18446744073709551616 - n) 31 (by omega) (by omega)
  rw [show ((31 : Nat) : Int) = 31 from rfl] at this
  rw [this, nat_mask5]
  omega

theorem U_add' (a b : BitVec 32) : (U a + U b) % 4294967296 = U (a + b) := by rw [← U_add, IntKind.wrap_u32']
theorem U_shl' (a : BitVec 32) (n : Nat) : U a * 2 ^ n % 4294967296 = U (a <<< n) := by rw [← U_shl, IntKind.wrap_u32']
theorem U_sub_not' (a : BitVec 32) : (4294967295 - U a) % 4294967296 = U (~~~a) := by rw [← U_sub_not, IntKind.wrap_u32']

set_option maxHeartbeats 400000 in
theorem rotl_any (x : BitVec 32) (n : Nat) (w : World) (h0 : 0 < n) (h : n < 32) :
    Calls Tryd.prog 144 #[.int .u32 (U x), .int .i64 (-(n : Int))] w fun e w' => e = .returned (.int .u32 (U (ror x n))) ∧ w = w' := by
  have hn := neg_and31 n h0 h
  go_enter Tryd.func144, Tryd.ntmps144
  go_wp2
  go_ret
  have e : 32 - (32 - n) = n := by omega
  refine ⟨?_, rfl⟩
  rw [e, U_shl', U_shr, U_or, ror_eq']
  rfl

set_option maxHeartbeats 400000 in
theorem right_any (x : BitVec 32) (n : Nat) (w : World) (h0 : 0 < n) (h : n < 32) :
    Calls Tryd.prog 143 #[.int .u32 (U x), .int .i64 (n : Int)] w fun e w' => e = .returned (.int .u32 (U (ror x n))) ∧ w = w' := by
  go_enter Tryd.func143, Tryd.ntmps143
  go_wp2_with fail
  refine (rotl_any x n _ h0 h).mono ?_
  rintro e w' ⟨rfl, rfl⟩
  go_wp2
  go_ret
  exact ⟨rfl, rfl⟩

set_option maxHeartbeats 400000 in
theorem turn_any (x : BitVec 32) (n : Nat) (w : World) (h0 : 0 < n) (h : n < 32) :
    Calls Tryd.prog 77 #[.int .u32 (U x), .int .i64 (n : Int)] w fun e w' => e = .returned (.int .u32 (U (ror x n))) ∧ ∃ k, w' = w.drewN k := by
  go_enter Tryd.func77, Tryd.ntmps77
  go_wp2
  go_quiet (fail)
  go_wp2
  go_ret
  refine ⟨?_, _, rfl⟩
  rw [U_shl', U_shr, U_or]
  rfl

theorem right_at (x : BitVec 32) (z : Int) (n : Nat) (w : World) (hz : z = (n : Int)) (h0 : 0 < n) (h : n < 32) :
    Calls Tryd.prog 143 #[.int .u32 (U x), .int .i64 z] w fun e w' => e = .returned (.int .u32 (U (ror x n))) ∧ w = w' := by
  subst hz
  exact right_any x n w h0 h
theorem turn_at (x : BitVec 32) (z : Int) (n : Nat) (w : World) (hz : z = (n : Int)) (h0 : 0 < n) (h : n < 32) :
    Calls Tryd.prog 77 #[.int .u32 (U x), .int .i64 z] w fun e w' => e = .returned (.int .u32 (U (ror x n))) ∧ ∃ k, w' = w.drewN k := by
  subst hz
  exact turn_any x n w h0 h

end Go.Proofs.YtpbjianhkjjgkaaDoor

namespace Go.Proofs.YtpbjianhkjjgkaaDoor
open Go.RowKit

theorem Below.drewN' {B : Nat} {a w : World} (h : Below B a w) (k : Nat) : Below B a (w.drewN k) := ⟨h.os, h.tape, h.output, h.size, h.block⟩

set_option maxRecDepth 8000 in
set_option maxHeartbeats 4000000 in
theorem round_any (s : S8) (x : BitVec 32) (w : World) :
    Calls Tryd.prog 141 #[.agg #[.int .u32 (U s.a), .int .u32 (U s.b), .int .u32 (U s.c), .int .u32 (U s.d), .int .u32 (U s.e), .int .u32 (U s.f), .int .u32 (U s.g), .int .u32 (U s.h)], .int .u32 (U x)] w fun e w' =>
      e = .returned (.agg #[.int .u32 (U (rnd s x).a), .int .u32 (U (rnd s x).b), .int .u32 (U (rnd s x).c), .int .u32 (U (rnd s x).d), .int .u32 (U (rnd s x).e), .int .u32 (U (rnd s x).f), .int .u32 (U (rnd s x).g), .int .u32 (U (rnd s x).h)]) ∧ Below w.heap.size w w' := by
  obtain ⟨a, b, c, d, e, f, g, h⟩ := s
  dsimp only [rnd]
  have kx := U_xor
  have ka := U_and
  have kp := U_add'
  have kn := U_not
  have hsg : IntKind.u32.signed = false := rfl
  have hmx : IntKind.u32.max = 4294967295 := by decide
  go_enter Tryd.func141, Tryd.ntmps141
  go_wp2
  go_quiet (fail)
  go_wp2_with fail
  refine (right_at e _ 6 _ rfl (by omega) (by omega)).mono ?_
  rintro _ _ ⟨rfl, rfl⟩
  go_wp2_with fail
  refine (right_at e _ 11 _ rfl (by omega) (by omega)).mono ?_
  rintro _ _ ⟨rfl, rfl⟩
  go_wp2_with fail
  refine (right_at e _ 25 _ rfl (by omega) (by omega)).mono ?_
  rintro _ _ ⟨rfl, rfl⟩
  go_wp2_with fail
  refine (right_at a _ 2 _ rfl (by omega) (by omega)).mono ?_
  rintro _ _ ⟨rfl, rfl⟩
  go_wp2_with fail
  refine (right_at a _ 13 _ rfl (by omega) (by omega)).mono ?_
  rintro _ _ ⟨rfl, rfl⟩
  go_wp2_with fail
  refine (right_at a _ 22 _ rfl (by omega) (by omega)).mono ?_
  rintro _ _ ⟨rfl, rfl⟩
  go_wp2
  refine bodyPost_ret (v := .agg #[.int .u32 (U (h + bg1 e + cho e f g + x + (bg0 a + maj a b c))), .int .u32 (U a), .int .u32 (U b), .int .u32 (U c), .int .u32 (U (d + (h + bg1 e + cho e f g + x))), .int .u32 (U e), .int .u32 (U f), .int .u32 (U g)]) ?_ rfl ⟨rfl, ?_⟩
  · simp [results, Tryd.results141, go_sem]
    exact ⟨rfl, rfl⟩
  · refine Below.setCell (Below.setCell (Below.setCell (Below.setCell (Below.setCell (Below.setCell (Below.setCell (Below.setCell (Below.drewN' (((Below.refl _ _).alloc (Nat.le_refl _) _).alloc (by simp) _) nq) ?_ _) ?_ _) ?_ _) ?_ _) ?_ _) ?_ _) ?_ _) ?_ _ <;> simp

end Go.Proofs.YtpbjianhkjjgkaaDoor

namespace Go.Proofs.YtpbjianhkjjgkaaDoor
open Go.RowKit

def cellsU (L : List (BitVec 32)) : List Value := L.map fun x => Value.int .u32 (U x)
theorem cellsU_length (L : List (BitVec 32)) : (cellsU L).length = L.length := by simp [cellsU]
theorem cellsU_at (L : List (BitVec 32)) (j : Nat) : (cellsU L)[j]? = L[j]?.map fun x => Value.int .u32 (U x) := by simp [cellsU]

/-- Words one behind the other, from cell 'o' of block 'g' on; none of them frozen. -/
def ArU (w : World) (g o : Nat) (L : List (BitVec 32)) : Prop :=
  (∀ j, j < L.length → w.cell? ⟨g, o + j, none⟩ = some (.int .u32 (U (L.getD j 0)))) ∧ ∀ j, j < L.length → w.frozen? ⟨g, o + j, none⟩ = false
/-- Bytes likewise. -/
def ArB (w : World) (g o : Nat) (l : List UInt8) : Prop :=
  (∀ j, j < l.length → w.cell? ⟨g, o + j, none⟩ = some (.int .u8 ((l.getD j 0).toNat : Int))) ∧ ∀ j, j < l.length → w.frozen? ⟨g, o + j, none⟩ = false

section
variable {w w' : World} {g o : Nat} {L : List (BitVec 32)} {l : List UInt8}
theorem ArU.below (h : ArU w g o L) (hb : Below w.heap.size w w') : ArU w' g o L :=
  ⟨fun j hj => cell_below hb (h.1 j hj), fun j hj => by
    rw [hb.frozen (p := ⟨g, o + j, none⟩) (World.block_lt_of_cell? w _ (h.1 j hj))]; exact h.2 j hj⟩
theorem ArB.below (h : ArB w g o l) (hb : Below w.heap.size w w') : ArB w' g o l :=
  ⟨fun j hj => cell_below hb (h.1 j hj), fun j hj => by
    rw [hb.frozen (p := ⟨g, o + j, none⟩) (World.block_lt_of_cell? w _ (h.1 j hj))]; exact h.2 j hj⟩
theorem ArU.keep (h : ArU w g o L) (hc : ∀ j, w'.cell? ⟨g, j, none⟩ = w.cell? ⟨g, j, none⟩) (hf : ∀ j, w'.frozen? ⟨g, j, none⟩ = w.frozen? ⟨g, j, none⟩) : ArU w' g o L :=
  ⟨fun j hj => (hc _).trans (h.1 j hj), fun j hj => (hf _).trans (h.2 j hj)⟩
theorem ArB.keep (h : ArB w g o l) (hc : ∀ j, w'.cell? ⟨g, j, none⟩ = w.cell? ⟨g, j, none⟩) (hf : ∀ j, w'.frozen? ⟨g, j, none⟩ = w.frozen? ⟨g, j, none⟩) : ArB w' g o l :=
  ⟨fun j hj => (hc _).trans (h.1 j hj), fun j hj => (hf _).trans (h.2 j hj)⟩
theorem ArU.drewN (h : ArU w g o L) (k : Nat) : ArU (w.drewN k) g o L := h
theorem ArB.drewN (h : ArB w g o l) (k : Nat) : ArB (w.drewN k) g o l := h
theorem ArU.drew (h : ArU w g o L) : ArU w.drew g o L := h
theorem ArB.drew (h : ArB w g o l) : ArB w.drew g o l := h
/-- A store into it. -/
theorem ArU.set (h : ArU w g o L) (k : Nat) (hk : k < L.length) (x : BitVec 32) : ArU (w.setCell ⟨g, o + k, none⟩ (.int .u32 (U x))) g o (L.set k x) := by
  refine ⟨fun j hj => ?_, fun j hj => ?_⟩
  · rw [List.length_set] at hj
    by_cases e : k = j
    · subst e
      rw [World.cell?_setCell_same _ _ _ (h.1 k hk)]
      simp [List.getD_eq_getElem?_getD, hk]
    · rw [World.cell?_setCell_other _ _ _ _ (by intro e'; injection e' with _ e'; omega), h.1 j hj]
      simp [List.getD_eq_getElem?_getD, e]
  · rw [World.frozen?_setCell]
    exact h.2 j (by simpa using hj)
theorem ArB.set (h : ArB w g o l) (k : Nat) (hk : k < l.length) (x : UInt8) (y : Int) (hy : y = (x.toNat : Int)) : ArB (w.setCell ⟨g, o + k, none⟩ (.int .u8 y)) g o (l.set k x) := by
  subst hy
  refine ⟨fun j hj => ?_, fun j hj => ?_⟩
  · rw [List.length_set] at hj
    by_cases e : k = j
    · subst e
      rw [World.cell?_setCell_same _ _ _ (h.1 k hk)]
      simp [List.getD_eq_getElem?_getD, hk]
    · rw [World.cell?_setCell_other _ _ _ _ (by intro e'; injection e' with _ e'; omega), h.1 j hj]
      simp [List.getD_eq_getElem?_getD, e]
  · rw [World.frozen?_setCell]
    exact h.2 j (by simpa using hj)
/-- A store elsewhere. -/
theorem ArU.other (h : ArU w g o L) (p : Addr) (v : Value) (hp : p.block ≠ g ∨ p.off < o ∨ o + L.length ≤ p.off) : ArU (w.setCell p v) g o L := by
  refine ⟨fun j hj => ?_, fun j hj => by rw [World.frozen?_setCell]; exact h.2 j hj⟩
  rw [World.cell?_setCell_other _ _ _ _ (by rintro rfl; simp at hp; omega)]
  exact h.1 j hj
theorem ArB.other (h : ArB w g o l) (p : Addr) (v : Value) (hp : p.block ≠ g ∨ p.off < o ∨ o + l.length ≤ p.off) : ArB (w.setCell p v) g o l := by
  refine ⟨fun j hj => ?_, fun j hj => by rw [World.frozen?_setCell]; exact h.2 j hj⟩
  rw [World.cell?_setCell_other _ _ _ _ (by rintro rfl; simp at hp; omega)]
  exact h.1 j hj
/-- A new block. -/
theorem ArU.new (w : World) (L : List (BitVec 32)) (t : TypeId) (cs : Array Value) (b : Nat) (hb : b = w.heap.size) (hcs : cs = (cellsU L).toArray) : ArU (w.alloc (.cells cs t)) b 0 L := by
  subst hb hcs
  refine ⟨fun j hj => ?_, fun j hj => by simp⟩
  rw [cell_of_row _ w.heap.size _ _ _ (0, 0) (heap_alloc_new w _)]
  simp [cellsU_at, List.getD_eq_getElem?_getD, hj]
theorem ArB.new (w : World) (l : List UInt8) (t : TypeId) (cs : Array Value) (b : Nat) (hb : b = w.heap.size) (hcs : cs = (cellsB l).toArray) : ArB (w.alloc (.cells cs t)) b 0 l := by
  subst hb hcs
  refine ⟨fun j hj => ?_, fun j hj => by simp⟩
  rw [cell_of_row _ w.heap.size _ _ _ (0, 0) (heap_alloc_new w _)]
  simp [cellsB_at, List.getD_eq_getElem?_getD, hj]
theorem ArU.alloc (h : ArU w g o L) (ob : Obj) : ArU (w.alloc ob) g o L := h.below ((Below.refl _ _).alloc (Nat.le_refl _) _)
theorem ArB.alloc (h : ArB w g o l) (ob : Obj) : ArB (w.alloc ob) g o l := h.below ((Below.refl _ _).alloc (Nat.le_refl _) _)

variable {P : Program}
theorem add_off (g o j : Nat) : (⟨g, o, none⟩ : Addr).add j = ⟨g, o + j, none⟩ := by
  unfold Addr.add
  split
  · rename_i h; simp_all
  · rfl
/-- Read out whole. -/
theorem ArU.load (h : ArU w g o L) (n : Nat) (hn : L.length = n) : (loadCellsFrom ⟨g, o, none⟩ 0 n #[]).run P w = .ok (cellsU L).toArray w := by
  have := run_loadCells_list (P := P) w ⟨g, o, none⟩ (cellsU L) (fun j v hv => by
    rw [cellsU_at] at hv
    obtain ⟨x, hx, rfl⟩ := Option.map_eq_some_iff.1 hv
    have hj := (List.getElem?_eq_some_iff.1 hx).1
    rw [add_off, h.1 j hj, List.getD_eq_getElem?_getD, hx]
    rfl)
  rw [cellsU_length, hn] at this
  exact this
theorem ArB.load (h : ArB w g o l) (n : Nat) (hn : l.length = n) : (loadCellsFrom ⟨g, o, none⟩ 0 n #[]).run P w = .ok (cellsB l).toArray w := by
  have := run_loadCells_list (P := P) w ⟨g, o, none⟩ (cellsB l) (fun j v hv => by
    rw [cellsB_at] at hv
    obtain ⟨x, hx, rfl⟩ := Option.map_eq_some_iff.1 hv
    have hj := (List.getElem?_eq_some_iff.1 hx).1
    rw [add_off, h.1 j hj, List.getD_eq_getElem?_getD, hx]
    rfl)
  rw [cellsB_length, hn] at this
  exact this
theorem cellsU_one (L : List (BitVec 32)) : ∀ u ∈ cellsU L, u.oneCell' = true := by
  intro u hu
  simp only [cellsU, List.mem_map] at hu
  obtain ⟨b, _, rfl⟩ := hu
  rfl
/-- Written whole. -/
theorem ArU.store {L0 : List (BitVec 32)} (h : ArU w g o L0) (hl : L.length ≤ L0.length) : (storeCells ⟨g, o, none⟩ (cellsU L) 0).run P w = .ok () (w.setCells g o (cellsU L)) := by
  have := run_storeCells_cells (P := P) g o (cellsU L) 0 w (fun j hj => by
    rw [cellsU_length] at hj
    have := h.1 j (by omega)
    simp [this]) (fun j hj => by
    rw [cellsU_length] at hj
    exact h.2 j (by omega)) (cellsU_one L)
  exact this
theorem ArU.stored {L0 : List (BitVec 32)} (h : ArU w g o L0) (hl : L.length ≤ L0.length) : ArU (w.setCells g o (cellsU L)) g o L := by
  refine ⟨fun j hj => ?_, fun j hj => ?_⟩
  · rw [World.cell?_setCells_in g (cellsU L) o w (fun i hi => by
      rw [cellsU_length] at hi
      have := h.1 i (by omega)
      simp [this]) j (by rw [cellsU_length]; exact hj), List.getD_eq_getElem?_getD, List.getElem?_eq_getElem hj]
    simp [cellsU]
  · rw [World.frozen?_setCells]
    exact h.2 j (by omega)
theorem heap_setCells (g : Nat) (k : Nat) (hk : k ≠ g) : ∀ (vs : List Value) (o : Nat) (w : World), (w.setCells g o vs).heap[k]? = w.heap[k]?
  | [], _, _ => rfl
  | v :: r, o, w => by
    rw [World.setCells, heap_setCells g k hk r, Below.heap_setCell _ _ _ _ hk]
theorem size_setCells (g : Nat) : ∀ (vs : List Value) (o : Nat) (w : World), (w.setCells g o vs).heap.size = w.heap.size
  | [], _, _ => rfl
  | v :: r, o, w => by rw [World.setCells, size_setCells g r, World.size_setCell]
theorem Below.setCells {B : Nat} {a : World} (g : Nat) (hg : B ≤ g) : ∀ (vs : List Value) (o : Nat) (w : World), Below B a w → Below B a (w.setCells g o vs)
  | [], _, _, h => h
  | v :: r, o, w, h => by
    rw [World.setCells]
    exact Below.setCells g hg r _ _ (h.setCell hg v)
end

end Go.Proofs.YtpbjianhkjjgkaaDoor

namespace Go.Proofs.YtpbjianhkjjgkaaDoor
open Go.RowKit

/-- What the program's table says of a type of arrays. -/
structure ArrT (P : Program) (t : TypeId) (n : Nat) (e : TypeId) : Prop where
  hu : ∀ w, (isAgg t).run P w = .ok true w
  hi : (P.info? t).map (·.size) = some n
theorem agg_arr {P : Program} {t : TypeId} {n : Nat} {e : TypeId} (h : P.underlying t = some (.array n e)) : ∀ w, (isAgg t).run P w = .ok true w := fun w => by
  simp [isAgg, run_underlying h]
theorem agg_struct {P : Program} {t : TypeId} {fs : Array Field} (h : P.underlying t = some (.struct fs)) : ∀ w, (isAgg t).run P w = .ok true w := fun w => by
  simp [isAgg, run_underlying h]

section
variable {P : Program}
theorem run_storeCells_newAt (w : World) (t : TypeId) (c : Array Value) (L : List (BitVec 32)) (g : Nat) (hg : g = w.heap.size) (hi : (P.info? t).map (·.size) = some L.length) (ho : c.size = L.length) :
    (storeCells ⟨g, 0, none⟩ (cellsU L).toArray.toList 0).run P (w.alloc (.cells c t)) = .ok () (w.alloc (.cells (cellsU L).toArray t)) := by
  subst hg
  refine run_storeCells_new w t c _ (by rw [List.size_toArray, cellsU_length]; exact hi) (by rw [ho]; simp [cellsU_length]) ?_
  rw [Array.all_eq_true_iff_forall_mem]
  intro x hx
  exact cellsU_one _ _ (by simpa using hx)
theorem run_storeCells_vals (w : World) (t : TypeId) (c cs : Array Value) (n g : Nat) (hg : g = w.heap.size) (hi : (P.info? t).map (·.size) = some n) (h1 : c.size = n) (h2 : cs.size = n) (h3 : cs.all (·.oneCell') = true) :
    (storeCells ⟨g, 0, none⟩ cs.toList 0).run P (w.alloc (.cells c t)) = .ok () (w.alloc (.cells cs t)) := by
  subst hg
  exact run_storeCells_new w t c cs (by rw [h2]; exact hi) (by rw [h1, h2]) h3
theorem run_load_arr (w : World) (t e : TypeId) (n : Nat) (hT : ArrT P t n e) (g o : Nat) (cs : Array Value) (h : (loadCellsFrom ⟨g, o, none⟩ 0 n #[]).run P w = .ok cs w) :
    (Instr.loadAt t (.pointer (some ⟨g, o, none⟩))).run P w = .ok (.agg cs) w := by
  obtain ⟨i, hi, hs⟩ := Option.map_eq_some_iff.1 hT.hi
  simp [Instr.loadAt, Instr.sureAddr, loadVar, hT.hu, sizeOf, typeInfo, hi, hs, loadCells, h]
theorem run_store_arr (w w' : World) (t e : TypeId) (n : Nat) (hT : ArrT P t n e) (g o : Nat) (cs : Array Value) (hn : cs.size = n) (h : (storeCells ⟨g, o, none⟩ cs.toList 0).run P w = .ok () w') :
    (Instr.storeAt t (.pointer (some ⟨g, o, none⟩)) (.agg cs)).run P w = .ok () w' := by
  obtain ⟨i, hi, hs⟩ := Option.map_eq_some_iff.1 hT.hi
  simp [Instr.storeAt, Instr.sureAddr, storeVar, sizeOf, typeInfo, hi, hs, Value.cells, hn, h]

theorem wpList_load_arr (w : World) {ops : Array Oper} {rest : List Oper} {o : Oper} {a : Act} {Q : Exit → Act → World → Prop} (hgd : o.guard = none) (p : Operand) (t e : TypeId) (n : Nat) (hT : ArrT P t n e)
    (ho : o.op = .load t p) (g off : Nat) (hp : a.eval p = .pointer (some ⟨g, off, none⟩)) (cs : Array Value) (hl : (loadCellsFrom ⟨g, off, none⟩ 0 n #[]).run P w = .ok cs w)
    (h : wpList P ops Q rest (a.put o.dst (.agg cs)) w) : wpList P ops Q (o :: rest) a w :=
  wpList_plain hgd fun _ hK => by
    unfold Oper.wp execOp
    simp only [ho, hp, run_load_arr w t e n hT g off cs hl, Sem.run_bind, Sem.run_pure, Result.andThen_ok]
    exact hK _ _ h

theorem wpList_store_arr (w w' : World) {ops : Array Oper} {rest : List Oper} {o : Oper} {a : Act} {Q : Exit → Act → World → Prop} (hgd : o.guard = none) (p x : Operand) (t e : TypeId) (n : Nat) (hT : ArrT P t n e)
    (ho : o.op = .store t p x) (g off : Nat) (hp : a.eval p = .pointer (some ⟨g, off, none⟩)) (cs : Array Value) (hx : a.eval x = .agg cs) (hn : cs.size = n) (hs : (storeCells ⟨g, off, none⟩ cs.toList 0).run P w = .ok () w')
    (h : wpList P ops Q rest (a.put o.dst undef) w') : wpList P ops Q (o :: rest) a w :=
  wpList_plain hgd fun _ hK => by
    unfold Oper.wp execOp
    simp only [ho, hp, hx, run_store_arr w w' t e n hT g off cs hn hs, Sem.run_bind, Sem.run_pure, Result.andThen_ok]
    exact hK _ _ h
/-- The result lies in an array. -/
theorem results_arr (w : World) {fn : Func} {p : Tmp} {t e : TypeId} {n : Nat} (hr : fn.results = #[.cell p t]) (tmps : Array Value) (hT : ArrT P t n e) (g off : Nat) (hp : tmps.getD p undef = .pointer (some ⟨g, off, none⟩)) (cs : Array Value)
    (hl : (loadCellsFrom ⟨g, off, none⟩ 0 n #[]).run P w = .ok cs w) : (results fn tmps).run P w = .ok (.agg cs) w := by
  obtain ⟨i, hi, hs⟩ := Option.map_eq_some_iff.1 hT.hi
  have hp' : tmps[p]?.getD undef = .pointer (some ⟨g, off, none⟩) := by rw [← hp]; simp
  simp only [results, hr]
  simp [Sem.run_bind, Result.andThen, hp', asAddr, loadVar, hT.hu, sizeOf, typeInfo, hi, hs, loadCells, hl]
end

end Go.Proofs.YtpbjianhkjjgkaaDoor
