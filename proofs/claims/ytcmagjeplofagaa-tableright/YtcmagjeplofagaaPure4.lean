/-
  Plain facts on bytes that are cut, and on which value's bytes begin with another's.
-/
import Derived.Test.YtcmagjeplofagaaPure3
namespace Go.Proofs.Ytcmagjeplofagaa
open Go.RowKit

theorem take_mod_lt {p : List UInt8} (k : Nat) (h : k < p.length) : (p.take k).length = k := by rw [List.length_take]; omega

/-- Bytes that end too soon. -/
theorem dec_cut (v : V) (h : v.Ok) (k : Nat) (hk : k < (enc v).length) : (dec ((enc v).take k)).2.2 = 3 := by
  rcases h.cases with rfl | ⟨n, rfl, h1, h2⟩ | ⟨s, rfl, hs⟩
  · have : k = 0 := by simp [enc_null] at hk; exact hk
    subst this
    rfl
  · rw [enc_int] at hk ⊢
    rcases k with _ | k
    · rfl
    · rw [List.take_succ_cons]
      have hl : (high (u64N n) 8).length = 8 := high_length _ _
      rw [List.length_cons, hl] at hk
      have e : decKind 1 ((high (u64N n) 8).take k) = (V.none, 0, 3) := by
        rw [decKind_1]
        unfold decNum
        rw [if_pos (by rw [List.length_take]; omega)]
      rw [dec_consE e (by omega)]
  · rw [enc_text] at hk ⊢
    rcases k with _ | k
    · rfl
    · rw [List.take_succ_cons]
      have hl : (high s.size 2).length = 2 := high_length _ _
      have hd : s.data.toList.length = s.size := by simp
      rw [List.length_cons, List.length_append, hl, hd] at hk
      have hr : rdN (high s.size 2) = s.size := by rw [rdN_high]; exact Nat.mod_eq_of_lt (by omega)
      have e : decKind 2 ((high s.size 2 ++ s.data.toList).take k) = (V.none, 0, 3) := by
        rw [decKind_2]
        unfold decText
        by_cases h2 : k < 2
        · rw [if_pos (by rw [List.length_take]; omega)]
        · have t2 : ((high s.size 2 ++ s.data.toList).take k).take 2 = high s.size 2 := by
            rw [List.take_take, Nat.min_eq_left (by omega), List.take_append_of_le_length (by omega), List.take_of_length_le (by omega)]
          have hlen : ((high s.size 2 ++ s.data.toList).take k).length = k := by
            rw [List.length_take, List.length_append, hl, hd]; omega
          rw [t2, hr, hlen, if_neg (by omega), if_neg (by omega), if_pos (by omega)]
      rw [dec_consE e (by omega)]

/-- None begins another one. -/
theorem enc_prefix (x y : V) (hx : x.Ok) (hy : y.Ok) : ((enc x).length ≤ (enc y).length ∧ (enc y).take (enc x).length = enc x) ↔ x = y := by
  constructor
  · rintro ⟨_, h2⟩
    have e : enc y = enc x ++ (enc y).drop (enc x).length := by
      conv => lhs; rw [← List.take_append_drop (enc x).length (enc y)]
      rw [h2]
    have d1 := dec_enc y [] hy
    rw [List.append_nil, e, dec_enc x _ hx] at d1
    injection d1
  · rintro rfl
    exact ⟨Nat.le_refl _, List.take_of_length_le (Nat.le_refl _)⟩

end Go.Proofs.Ytcmagjeplofagaa
