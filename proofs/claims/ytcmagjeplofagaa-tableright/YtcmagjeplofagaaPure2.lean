/-
  Plain facts on values and their bytes: what was written is read, and the other way round.
-/
import Derived.Test.YtcmagjeplofagaaPure
namespace Go.Proofs.Ytcmagjeplofagaa
open Go.RowKit

theorem i64Z_u64N (n : Int) (h1 : -9223372036854775808 ≤ n) (h2 : n ≤ 9223372036854775807) : i64Z (u64N n) = n := by
  unfold i64Z u64N
  split <;> omega
theorem i64Z_bounds (n : Nat) (h : n < 18446744073709551616) : -9223372036854775808 ≤ i64Z n ∧ i64Z n ≤ 9223372036854775807 := by
  unfold i64Z
  split <;> omega
theorem u64N_i64Z (n : Nat) (h : n < 18446744073709551616) : u64N (i64Z n) = n := by
  unfold i64Z u64N
  split <;> omega

theorem enc_pos (v : V) : 0 < (enc v).length := by
  unfold enc
  split
  · simp
  · split <;> simp

theorem enc_null : enc V.none = [0] := rfl
theorem enc_int (n : Int) (s : ByteArray) : enc ⟨1, n, s⟩ = 1 :: high (u64N n) 8 := rfl
theorem enc_text (n : Int) (s : ByteArray) : enc ⟨2, n, s⟩ = 2 :: (high s.size 2 ++ s.data.toList) := rfl

/-- A value that is right is one of three. -/
theorem V.Ok.cases {v : V} (h : v.Ok) : v = V.none ∨ (∃ n, v = ⟨1, n, ⟨#[]⟩⟩ ∧ -9223372036854775808 ≤ n ∧ n ≤ 9223372036854775807) ∨ (∃ s, v = ⟨2, 0, s⟩ ∧ s.size ≤ 200) := by
  obtain ⟨k, n, s⟩ := v
  rcases h with ⟨h1, h2, h3⟩ | ⟨h1, h2, h3, h4⟩ | ⟨h1, h2, h3⟩ <;> simp only at h1 h2 h3
  · subst h1 h2 h3; exact .inl rfl
  · subst h1 h2; exact .inr (.inl ⟨n, rfl, h3, h4⟩)
  · subst h1 h2; exact .inr (.inr ⟨s, rfl, h3⟩)

theorem decKind_1 (p : List UInt8) : decKind 1 p = decNum p := rfl
theorem decKind_2 (p : List UInt8) : decKind 2 p = decText p := rfl
theorem dec_cons {b : UInt8} {p : List UInt8} {v : V} {n : Nat} (h : decKind b p = (v, n, 0)) : dec (b :: p) = (v, n + 1, 0) := by
  show ((decKind b p).1, _, _) = _
  rw [h]
  rfl
theorem dec_consE {b : UInt8} {p : List UInt8} {x : Int} (h : decKind b p = (V.none, 0, x)) (hx : x ≠ 0) : dec (b :: p) = (V.none, 0, x) := by
  show ((decKind b p).1, _, _) = _
  rw [h]
  simp [hx]

theorem dec_ok0 (b : UInt8) (p : List UInt8) (v : V) (n : Nat) (h : decKind b p = (v, n, 0)) : v.Ok ∧ n ≤ p.length ∧ enc v = b :: p.take n := by
  unfold decKind at h
  split at h
  · rename_i hb
    injection h with h1 h2
    injection h2 with h2 _
    subst h1 h2 hb
    exact ⟨.inl ⟨rfl, rfl, rfl⟩, Nat.zero_le _, rfl⟩
  · split at h
    · rename_i hb
      unfold decNum at h
      split at h
      · simp at h
      · rename_i hl
        injection h with h1 h2
        injection h2 with h2 _
        subst h1 h2 hb
        have hlt := rdN_lt' (p.take 8) 8 (by rw [List.length_take]; omega)
        have hbd := i64Z_bounds (rdN (p.take 8)) hlt
        refine ⟨.inr (.inl ⟨rfl, rfl, hbd.1, hbd.2⟩), by omega, ?_⟩
        rw [enc_int, u64N_i64Z _ hlt]
        have := high_rdN (p.take 8)
        rw [List.length_take, Nat.min_eq_left (by omega)] at this
        rw [this]
    · split at h
      · rename_i hb
        unfold decText at h
        split at h
        · simp at h
        · split at h
          · simp at h
          · split at h
            · simp at h
            · rename_i h2 h200 hl
              injection h with h1 h3
              injection h3 with h3 _
              subst h1 h3 hb
              have hsz : (⟨((p.drop 2).take (rdN (p.take 2))).toArray⟩ : ByteArray).size = rdN (p.take 2) := by
                show ((p.drop 2).take (rdN (p.take 2))).length = _
                rw [List.length_take, List.length_drop]
                omega
              refine ⟨.inr (.inr ⟨rfl, rfl, by rw [hsz]; omega⟩), by omega, ?_⟩
              rw [enc_text, hsz]
              have := high_rdN (p.take 2)
              rw [List.length_take, Nat.min_eq_left (by omega)] at this
              rw [this]
              show (2 : UInt8) :: (p.take 2 ++ (p.drop 2).take (rdN (p.take 2))) = _
              rw [← List.take_add]
      · simp at h

/-- What is read is right, and is written as it was. -/
theorem dec_ok (p : List UInt8) (h : (dec p).2.2 = 0) : (dec p).1.Ok ∧ (dec p).2.1 ≤ p.length ∧ enc (dec p).1 = p.take (dec p).2.1 := by
  rcases p with _ | ⟨b, p⟩
  · cases h
  · rcases hd : decKind b p with ⟨v, n, x⟩
    have hx : x = 0 := by
      have : (decKind b p).2.2 = 0 := h
      rw [hd] at this
      exact this
    subst hx
    obtain ⟨h1, h2, h3⟩ := dec_ok0 b p v n hd
    have e : dec (b :: p) = (v, n + 1, 0) := by
      show ((decKind b p).1, _, _) = _
      rw [hd]
      rfl
    rw [e]
    exact ⟨h1, by simp; omega, by rw [h3]; rfl⟩

/-- What was written is read, whatever stands behind it. -/
theorem dec_enc (v : V) (more : List UInt8) (h : v.Ok) : dec (enc v ++ more) = (v, (enc v).length, 0) := by
  rcases h.cases with rfl | ⟨n, rfl, h1, h2⟩ | ⟨s, rfl, hs⟩
  · rfl
  · rw [enc_int]
    have e : decKind 1 (high (u64N n) 8 ++ more) = (⟨1, n, ⟨#[]⟩⟩, 8, 0) := by
      rw [decKind_1]
      unfold decNum
      have hl : (high (u64N n) 8).length = 8 := high_length _ _
      rw [if_neg (by rw [List.length_append, hl]; omega)]
      rw [List.take_append_of_le_length (by omega), List.take_of_length_le (by omega), rdN_high]
      rw [Nat.mod_eq_of_lt (u64N_lt n), i64Z_u64N n h1 h2]
    rw [List.cons_append, dec_cons e]
    simp [high_length]
  · rw [enc_text]
    have hl : (high s.size 2).length = 2 := high_length _ _
    have hr : rdN (high s.size 2) = s.size := by rw [rdN_high]; exact Nat.mod_eq_of_lt (by omega)
    have hd : s.data.toList.length = s.size := by simp
    have e : decKind 2 (high s.size 2 ++ s.data.toList ++ more) = (⟨2, 0, s⟩, 2 + s.size, 0) := by
      rw [decKind_2]
      have t2 : (high s.size 2 ++ s.data.toList ++ more).take 2 = high s.size 2 := by
        rw [List.append_assoc, List.take_append_of_le_length (by omega), List.take_of_length_le (by omega)]
      have d2 : (high s.size 2 ++ s.data.toList ++ more).drop 2 = s.data.toList ++ more := by
        rw [List.append_assoc, List.drop_append_of_le_length (by omega), List.drop_of_length_le (by omega)]
        rfl
      unfold decText
      rw [t2, d2, hr, if_neg (by simp [hl]), if_neg (by omega), if_neg (by simp [hl])]
      rw [List.take_append_of_le_length (by omega), List.take_of_length_le (by omega)]
    rw [List.cons_append, dec_cons e]
    simp [hl]

end Go.Proofs.Ytcmagjeplofagaa
