/-
  Plain facts on reading keys back.
-/
import Derived.Test.YtcmagjeplofagaaWV
namespace Go.Proofs.Ytcmagjeplofagaa
open Go.RowKit

/-- A text out of a key's bytes behind its mark, and what stands behind it. -/
def unText : List UInt8 → Option (List UInt8 × List UInt8)
  | [] => none
  | [_] => none
  | b :: c :: p =>
    if b = 0 then (if c = 255 then (unText p).map (fun x => (0 :: x.1, x.2)) else if c = 1 then some ([], p) else none)
    else (unText (c :: p)).map (fun x => (b :: x.1, x.2))

theorem unText_key (s r : List UInt8) : unText (keyText s ++ (0 :: 1 :: r)) = some (s, r) := by
  induction s with
  | nil => rfl
  | cons b s ih =>
    rw [keyText]
    split
    · rename_i h
      subst h
      show unText (0 :: 255 :: (keyText s ++ (0 :: 1 :: r))) = _
      rw [unText, if_pos rfl, if_pos rfl, ih]
      rfl
    · rename_i h
      obtain ⟨c, p, e⟩ : ∃ c p, keyText s ++ (0 :: 1 :: r) = c :: p := by
        rcases keyText s with _ | ⟨c, p⟩
        · exact ⟨0, _, rfl⟩
        · exact ⟨c, _, rfl⟩
      rw [List.cons_append, e, unText, if_neg h, ← e, ih]
      rfl

theorem unText_back : ∀ (n : Nat) (p s r : List UInt8), p.length ≤ n → unText p = some (s, r) → p = keyText s ++ (0 :: 1 :: r) := by
  intro n
  induction n with
  | zero =>
    intro p s r hn h
    have : p = [] := List.eq_nil_of_length_eq_zero (by omega)
    subst this
    cases h
  | succ n ih =>
    intro p s r hn h
    match p, h with
    | [], h => cases h
    | [_], h => cases h
    | b :: c :: p, h =>
      rw [unText] at h
      by_cases hb : b = 0
      · rw [if_pos hb] at h
        by_cases hc : c = 255
        · rw [if_pos hc] at h
          obtain ⟨⟨s', r'⟩, h1, h2⟩ := Option.map_eq_some_iff.1 h
          injection h2 with h3 h4
          subst h3 h4 hb hc
          have := ih p s' r' (by simp at hn; omega) h1
          rw [keyText, if_pos rfl, this]
          rfl
        · rw [if_neg hc] at h
          by_cases hc1 : c = 1
          · rw [if_pos hc1] at h
            injection h with h
            injection h with h3 h4
            subst h3 h4 hb hc1
            rfl
          · rw [if_neg hc1] at h
            cases h
      · rw [if_neg hb] at h
        obtain ⟨⟨s', r'⟩, h1, h2⟩ := Option.map_eq_some_iff.1 h
        injection h2 with h3 h4
        subst h3 h4
        have := ih (c :: p) s' r' (by simp at hn ⊢; omega) h1
        rw [keyText, if_neg hb, this]
        rfl

/-- A number out of its eight bytes in a key. -/
def unNum (p : List UInt8) : Int := (rdN p : Int) - 9223372036854775808

theorem unNum_key (n : Int) (h1 : -9223372036854775808 ≤ n) (h2 : n ≤ 9223372036854775807) : unNum (keyNum n) = n := by
  unfold unNum keyNum
  rw [rdN_high]
  have e : u64N (n + 9223372036854775808) = (n + 9223372036854775808).toNat := by unfold u64N; omega
  rw [e]
  show (((n + 9223372036854775808).toNat % 18446744073709551616 : Nat) : Int) - 9223372036854775808 = n
  omega
theorem key_unNum (p : List UInt8) (h : p.length = 8) : keyNum (unNum p) = p ∧ -9223372036854775808 ≤ unNum p ∧ unNum p ≤ 9223372036854775807 := by
  have hlt := rdN_lt p
  rw [h] at hlt
  have hlt' : rdN p < 18446744073709551616 := hlt
  unfold keyNum unNum
  have e : u64N ((rdN p : Int) - 9223372036854775808 + 9223372036854775808) = rdN p := by unfold u64N; omega
  rw [e]
  have := high_rdN p
  rw [h] at this
  exact ⟨this, by omega, by omega⟩

/-- A value out of what stands behind its mark, and what stands behind that. -/
def back1 (b : UInt8) (p : List UInt8) : Option (V × List UInt8) :=
  if b = 1 then some (V.none, p)
  else if b = 2 then (if p.length < 8 then none else some (⟨1, unNum (p.take 8), ⟨#[]⟩⟩, p.drop 8))
  else if b = 3 then (match unText p with | some (s, r) => if s.length ≤ 200 then some (⟨2, 0, ⟨s.toArray⟩⟩, r) else none | none => none)
  else none

theorem back1_key (v : V) (r : List UInt8) (h : v.Ok) : ∃ b p, keyOne v ++ r = b :: p ∧ back1 b p = some (v, r) := by
  rcases h.cases with rfl | ⟨n, rfl, h1, h2⟩ | ⟨s, rfl, hs⟩
  · exact ⟨1, r, rfl, rfl⟩
  · refine ⟨2, keyNum n ++ r, rfl, ?_⟩
    have hl : (keyNum n).length = 8 := high_length _ _
    show (if (keyNum n ++ r).length < 8 then none else some ((⟨1, unNum ((keyNum n ++ r).take 8), ⟨#[]⟩⟩ : V), (keyNum n ++ r).drop 8)) = _
    rw [if_neg (by rw [List.length_append, hl]; omega), List.take_append_of_le_length (by omega), List.take_of_length_le (by omega), unNum_key n h1 h2, List.drop_append_of_le_length (by omega), List.drop_of_length_le (by omega)]
    rfl
  · refine ⟨3, keyText s.data.toList ++ (0 :: 1 :: r), ?_, ?_⟩
    · show 3 :: (keyText s.data.toList ++ [0, 1]) ++ r = _
      simp
    · show (match unText (keyText s.data.toList ++ (0 :: 1 :: r)) with | some (s, r) => if s.length ≤ 200 then some ((⟨2, 0, ⟨s.toArray⟩⟩ : V), r) else none | none => none) = _
      rw [unText_key]
      have : s.data.toList.length ≤ 200 := by simpa using hs
      simp only [if_pos this]

theorem back1_back (b : UInt8) (p : List UInt8) (v : V) (r : List UInt8) (h : back1 b p = some (v, r)) : v.Ok ∧ keyOne v ++ r = b :: p := by
  unfold back1 at h
  split at h
  · rename_i hb
    injection h with h
    injection h with h1 h2
    subst h1 h2 hb
    exact ⟨.inl ⟨rfl, rfl, rfl⟩, rfl⟩
  · split at h
    · rename_i hb
      split at h
      · cases h
      · rename_i hl
        injection h with h
        injection h with h1 h2
        subst h1 h2 hb
        obtain ⟨e, b1, b2⟩ := key_unNum (p.take 8) (by rw [List.length_take]; omega)
        refine ⟨.inr (.inl ⟨rfl, rfl, b1, b2⟩), ?_⟩
        show 2 :: keyNum (unNum (p.take 8)) ++ p.drop 8 = _
        rw [e, List.cons_append, List.take_append_drop]
    · split at h
      · rename_i hb
        split at h
        · rename_i s r' hu
          split at h
          · rename_i hs
            injection h with h
            injection h with h1 h2
            subst h1 h2 hb
            refine ⟨.inr (.inr ⟨rfl, rfl, by simpa [ByteArray.size] using hs⟩), ?_⟩
            have := unText_back p.length p s r' (Nat.le_refl _) hu
            show 3 :: (keyText s ++ [0, 1]) ++ r' = _
            rw [this]
            simp
          · cases h
        · cases h
      · cases h

theorem back1_lt (b : UInt8) (p : List UInt8) (v : V) (r : List UInt8) (h : back1 b p = some (v, r)) : r.length ≤ p.length := by
  obtain ⟨_, e⟩ := back1_back b p v r h
  have := congrArg List.length e
  rw [List.length_append, List.length_cons] at this
  have hp : 0 < (keyOne v).length := by
    unfold keyOne
    split
    · simp
    · split <;> simp
  omega

/-- The values of a key. -/
def backF : Nat → List UInt8 → Option (List V)
  | _, [] => some []
  | 0, _ :: _ => none
  | n + 1, b :: p => match back1 b p with
    | none => none
    | some (v, r) => (backF n r).map (v :: ·)
def back (p : List UInt8) : Option (List V) := backF p.length p

theorem backF_fuel : ∀ (n m : Nat) (p : List UInt8), p.length ≤ n → p.length ≤ m → backF n p = backF m p := by
  intro n
  induction n with
  | zero =>
    intro m p h1 _
    have : p = [] := List.eq_nil_of_length_eq_zero (by omega)
    subst this
    cases m <;> rfl
  | succ n ih =>
    intro m p h1 h2
    rcases p with _ | ⟨b, p⟩
    · cases m <;> rfl
    · rcases m with _ | m
      · simp at h2
      · rw [backF, backF]
        rcases h : back1 b p with _ | ⟨v, r⟩
        · rfl
        · have := back1_lt b p v r h
          simp at h1 h2
          simp only
          rw [ih m r (by omega) (by omega)]

theorem back_cons (b : UInt8) (p : List UInt8) : back (b :: p) = match back1 b p with | none => none | some (v, r) => (back r).map (v :: ·) := by
  show backF (p.length + 1) (b :: p) = _
  rw [backF]
  rcases h : back1 b p with _ | ⟨v, r⟩
  · rfl
  · have := back1_lt b p v r h
    simp only
    rw [backF_fuel p.length r.length r this (Nat.le_refl _)]
    rfl

theorem back_key (l : List V) (h : ∀ v ∈ l, v.Ok) : back (keyOf l) = some l := by
  induction l with
  | nil => rfl
  | cons v l ih =>
    obtain ⟨b, p, e, hb⟩ := back1_key v (keyOf l) (h v (by simp))
    show back (keyOne v ++ keyOf l) = _
    rw [e, back_cons, hb]
    simp only
    rw [ih fun x hx => h x (by simp [hx])]
    rfl

theorem key_back : ∀ (n : Nat) (p : List UInt8) (l : List V), p.length ≤ n → back p = some l → (∀ v ∈ l, v.Ok) ∧ keyOf l = p := by
  intro n
  induction n with
  | zero =>
    intro p l hn h
    have : p = [] := List.eq_nil_of_length_eq_zero (by omega)
    subst this
    injection h with h
    subst h
    exact ⟨(fun v hv => by cases hv), rfl⟩
  | succ n ih =>
    intro p l hn h
    rcases p with _ | ⟨b, p⟩
    · injection h with h
      subst h
      exact ⟨(fun v hv => by cases hv), rfl⟩
    · rw [back_cons] at h
      rcases hb : back1 b p with _ | ⟨v, r⟩
      · rw [hb] at h
        cases h
      · rw [hb] at h
        simp only at h
        obtain ⟨l', h1, h2⟩ := Option.map_eq_some_iff.1 h
        subst h2
        obtain ⟨hv, e⟩ := back1_back b p v r hb
        have hlt := back1_lt b p v r hb
        obtain ⟨h3, h4⟩ := ih r l' (by simp at hn; omega) h1
        refine ⟨fun x hx => ?_, ?_⟩
        · rcases List.mem_cons.1 hx with rfl | hx
          · exact hv
          · exact h3 x hx
        · show keyOne v ++ keyOf l' = _
          rw [h4, e]

end Go.Proofs.Ytcmagjeplofagaa
