/-
  Plain facts on the order of keys' bytes.
-/
import Derived.Test.YtcmagjeplofagaaPureB
namespace Go.Proofs.Ytcmagjeplofagaa
open Go.RowKit
open Go.Op (bytesLess)

theorem bl_nil (l : List UInt8) : bytesLess l [] = false := by cases l <;> rfl
theorem bl_cons (a b : UInt8) (x y : List UInt8) : bytesLess (a :: x) (b :: y) = (decide (a < b) || (a == b && bytesLess x y)) := rfl
theorem bl_same (a : UInt8) (x y : List UInt8) : bytesLess (a :: x) (a :: y) = bytesLess x y := by
  rw [bl_cons]
  have : decide (a < a) = false := decide_eq_false (by simp)
  rw [this]
  simp
theorem bl_lt {a b : UInt8} (h : a < b) (x y : List UInt8) : bytesLess (a :: x) (b :: y) = true := by
  rw [bl_cons, decide_eq_true h]
  rfl
theorem bl_gt {a b : UInt8} (h : a < b) (x y : List UInt8) : bytesLess (b :: y) (a :: x) = false := by
  rw [bl_cons]
  have h1 : ¬ b < a := fun h' => by
    have := UInt8.lt_iff_toNat_lt.1 h
    have := UInt8.lt_iff_toNat_lt.1 h'
    omega
  have h2 : (b == a) = false := by
    rw [beq_eq_false_iff_ne]
    rintro rfl
    exact h1 h
  rw [decide_eq_false h1, h2]
  rfl
theorem bl_irr (l : List UInt8) : bytesLess l l = false := by
  induction l with
  | nil => rfl
  | cons a l ih => rw [bl_same, ih]
theorem bl_pre (p x y : List UInt8) : bytesLess (p ++ x) (p ++ y) = bytesLess x y := by
  induction p with
  | nil => rfl
  | cons a p ih => rw [List.cons_append, List.cons_append, bl_same, ih]
/-- One of the three. -/
theorem bl_tri (x y : List UInt8) : (bytesLess x y = true ∧ bytesLess y x = false ∧ x ≠ y) ∨ (bytesLess x y = false ∧ bytesLess y x = true ∧ x ≠ y) ∨ (bytesLess x y = false ∧ bytesLess y x = false ∧ x = y) := by
  induction x generalizing y with
  | nil =>
    rcases y with _ | ⟨b, y⟩
    · exact .inr (.inr ⟨rfl, rfl, rfl⟩)
    · exact .inl ⟨rfl, rfl, by simp⟩
  | cons a x ih =>
    rcases y with _ | ⟨b, y⟩
    · exact .inr (.inl ⟨rfl, rfl, by simp⟩)
    · by_cases hab : a = b
      · subst hab
        rw [bl_same, bl_same]
        rcases ih y with ⟨h1, h2, h3⟩ | ⟨h1, h2, h3⟩ | ⟨h1, h2, h3⟩
        · exact .inl ⟨h1, h2, by simpa using h3⟩
        · exact .inr (.inl ⟨h1, h2, by simpa using h3⟩)
        · exact .inr (.inr ⟨h1, h2, by rw [h3]⟩)
      · have hne : a :: x ≠ b :: y := by
          intro h
          injection h with h _
          exact hab h
        have hn : a.toNat ≠ b.toNat := fun h => hab (UInt8.toNat_inj.1 h)
        by_cases hlt : a < b
        · exact .inl ⟨bl_lt hlt _ _, bl_gt hlt _ _, hne⟩
        · have hgt : b < a := UInt8.lt_iff_toNat_lt.2 (by
            have h' : ¬ a.toNat < b.toNat := fun h => hlt (UInt8.lt_iff_toNat_lt.2 h)
            omega)
          exact .inr (.inl ⟨bl_gt hgt _ _, bl_lt hgt _ _, hne⟩)

/-- The one stands ahead, whatever follows. -/
def Lt (a b : List UInt8) : Prop := ∀ x y, bytesLess (a ++ x) (b ++ y) = true ∧ bytesLess (b ++ y) (a ++ x) = false
theorem Lt.cons {a b : List UInt8} (h : Lt a b) (c : UInt8) : Lt (c :: a) (c :: b) := fun x y => by
  rw [List.cons_append, List.cons_append, bl_same, bl_same]
  exact h x y
theorem Lt.head {u v : UInt8} (h : u < v) (a b : List UInt8) : Lt (u :: a) (v :: b) := fun _ _ => ⟨bl_lt h _ _, bl_gt h _ _⟩
theorem Lt.more {a b : List UInt8} (h : Lt a b) (s t : List UInt8) : Lt (a ++ s) (b ++ t) := fun x y => by
  rw [List.append_assoc, List.append_assoc]
  exact h _ _

theorem lt_high (k : Nat) : ∀ (m n : Nat), m % 2 ^ (8 * k) < n % 2 ^ (8 * k) → Lt (high m k) (high n k) := by
  induction k with
  | zero => intro m n h; simp [Nat.mod_one] at h
  | succ k ih =>
    intro m n h
    rw [show 8 * (k + 1) = 8 * k + 8 by omega, Nat.pow_add, Nat.mod_mul, Nat.mod_mul] at h
    show Lt (UInt8.ofNat (m / 2 ^ (8 * k)) :: high m k) (UInt8.ofNat (n / 2 ^ (8 * k)) :: high n k)
    have hpos : 0 < 2 ^ (8 * k) := Nat.pow_pos (by omega)
    have hm := Nat.mod_lt m hpos
    have hn := Nat.mod_lt n hpos
    have e8 : (2 : Nat) ^ 8 = 256 := rfl
    rw [e8] at h
    by_cases hq : m / 2 ^ (8 * k) % 256 = n / 2 ^ (8 * k) % 256
    · have e : UInt8.ofNat (m / 2 ^ (8 * k)) = UInt8.ofNat (n / 2 ^ (8 * k)) := by
        apply UInt8.toNat_inj.1
        rw [UInt8.toNat_ofNat', UInt8.toNat_ofNat']
        exact hq
      rw [e]
      refine (ih m n ?_).cons _
      rw [hq] at h
      omega
    · refine Lt.head (UInt8.lt_iff_toNat_lt.2 ?_) _ _
      rw [UInt8.toNat_ofNat', UInt8.toNat_ofNat']
      show m / 2 ^ (8 * k) % 256 < n / 2 ^ (8 * k) % 256
      generalize 2 ^ (8 * k) = P at *
      generalize m / P % 256 = q1 at *
      generalize n / P % 256 = q2 at *
      rcases Nat.lt_or_ge q1 q2 with h1 | h1
      · exact h1
      · exfalso
        have h2 : q2 + 1 ≤ q1 := by omega
        have := Nat.mul_le_mul_left P h2
        rw [Nat.mul_add] at this
        omega

theorem lt_num (a b : Int) (ha : -9223372036854775808 ≤ a) (hb : b ≤ 9223372036854775807) (h : a < b) : Lt (keyNum a) (keyNum b) := by
  refine lt_high 8 _ _ ?_
  unfold u64N
  show _ % 18446744073709551616 < _ % 18446744073709551616
  omega

theorem lt_text : ∀ (s t : List UInt8), bytesLess s t = true → Lt (keyText s ++ [0, 1]) (keyText t ++ [0, 1]) := by
  intro s
  induction s with
  | nil =>
    intro t h
    rcases t with _ | ⟨c, t⟩
    · cases h
    · by_cases hc : c = 0
      · subst hc
        rw [keyText, keyText, if_pos rfl]
        exact (Lt.head (by decide) _ _).cons _
      · rw [keyText, keyText, if_neg hc]
        refine Lt.head (UInt8.lt_iff_toNat_lt.2 ?_) _ _
        have : c.toNat ≠ 0 := fun h => hc (UInt8.toNat_inj.1 h)
        show 0 < c.toNat
        omega
  | cons a s ih =>
    intro t h
    rcases t with _ | ⟨c, t⟩
    · cases h
    · by_cases hac : a = c
      · subst hac
        rw [bl_same] at h
        have := ih t h
        by_cases ha : a = 0
        · subst ha
          rw [keyText, keyText, if_pos rfl, if_pos rfl]
          exact (this.cons _).cons _
        · rw [keyText, keyText, if_neg ha, if_neg ha]
          exact this.cons _
      · have hlt : a < c := by
          rw [bl_cons] at h
          have e : (a == c) = false := by rw [beq_eq_false_iff_ne]; exact hac
          rw [e] at h
          simpa using h
        have hc : c ≠ 0 := by
          rintro rfl
          have := UInt8.lt_iff_toNat_lt.1 hlt
          simp at this
        rw [keyText, keyText, if_neg hc]
        by_cases ha : a = 0
        · subst ha
          rw [if_pos rfl]
          exact Lt.head hlt _ _
        · rw [if_neg ha]
          exact Lt.head hlt _ _

/-- How two values stand. -/
def cmpV (a b : V) : Int :=
  if a.k ≠ b.k then (if a.k < b.k then -1 else 1)
  else if a.n < b.n ∨ bytesLess a.s.toList b.s.toList = true then -1
  else if b.n < a.n ∨ bytesLess b.s.toList a.s.toList = true then 1
  else 0
/-- How two lists of values stand. -/
def cmpL : List V → List V → Int
  | [], [] => 0
  | [], _ :: _ => -1
  | _ :: _, [] => 1
  | a :: l, b :: r => if cmpV a b ≠ 0 then cmpV a b else cmpL l r

theorem cmpV_key (a b : V) (ha : a.Ok) (hb : b.Ok) : (cmpV a b = -1 ∧ Lt (keyOne a) (keyOne b)) ∨ (cmpV a b = 1 ∧ Lt (keyOne b) (keyOne a)) ∨ (cmpV a b = 0 ∧ a = b) := by
  rcases ha.cases with rfl | ⟨m, rfl, hm1, hm2⟩ | ⟨s, rfl, hs⟩ <;> rcases hb.cases with rfl | ⟨n, rfl, hn1, hn2⟩ | ⟨t, rfl, ht⟩
  · exact .inr (.inr ⟨by simp [cmpV, bl_irr], rfl⟩)
  · exact .inl ⟨by simp [cmpV, V.none], Lt.head (by decide) _ _⟩
  · exact .inl ⟨by simp [cmpV, V.none], Lt.head (by decide) _ _⟩
  · exact .inr (.inl ⟨by simp [cmpV, V.none], Lt.head (by decide) _ _⟩)
  · rcases Int.lt_trichotomy m n with h | h | h
    · exact .inl ⟨by simp [cmpV, h], (lt_num m n hm1 hn2 h).cons _⟩
    · subst h
      exact .inr (.inr ⟨by simp [cmpV, bl_nil], rfl⟩)
    · refine .inr (.inl ⟨?_, (lt_num n m hn1 hm2 h).cons _⟩)
      have h' : ¬ m < n := by omega
      simp [cmpV, bl_nil, h, h']
  · exact .inl ⟨by simp [cmpV], Lt.head (by decide) _ _⟩
  · exact .inr (.inl ⟨by simp [cmpV, V.none], Lt.head (by decide) _ _⟩)
  · exact .inr (.inl ⟨by simp [cmpV], Lt.head (by decide) _ _⟩)
  · have es : s.toList = s.data.toList := ByteArray.toList_eq s
    have et : t.toList = t.data.toList := ByteArray.toList_eq t
    rcases bl_tri s.data.toList t.data.toList with ⟨h1, h2, h3⟩ | ⟨h1, h2, h3⟩ | ⟨h1, h2, h3⟩
    · exact .inl ⟨by simp [cmpV, es, et, h1], (lt_text _ _ h1).cons _⟩
    · exact .inr (.inl ⟨by simp [cmpV, es, et, h1, h2], (lt_text _ _ h2).cons _⟩)
    · have hst : s = t := by
        cases s; cases t
        simp only [ByteArray.mk.injEq]
        exact Array.toList_inj.1 h3
      subst hst
      exact .inr (.inr ⟨by simp [cmpV, es, h1], rfl⟩)

theorem cmpL_key (l r : List V) (hl : ∀ v ∈ l, v.Ok) (hr : ∀ v ∈ r, v.Ok) :
    (cmpL l r = -1 ∧ bytesLess (keyOf l) (keyOf r) = true ∧ bytesLess (keyOf r) (keyOf l) = false) ∨ (cmpL l r = 1 ∧ bytesLess (keyOf l) (keyOf r) = false ∧ bytesLess (keyOf r) (keyOf l) = true) ∨ (cmpL l r = 0 ∧ l = r) := by
  induction l generalizing r with
  | nil =>
    rcases r with _ | ⟨b, r⟩
    · exact .inr (.inr ⟨rfl, rfl⟩)
    · obtain ⟨c, p, e, _⟩ := back1_key b (keyOf r) (hr b (by simp))
      have e' : keyOf (b :: r) = c :: p := e
      rw [e']
      exact .inl ⟨rfl, rfl, rfl⟩
  | cons a l ih =>
    rcases r with _ | ⟨b, r⟩
    · obtain ⟨c, p, e, _⟩ := back1_key a (keyOf l) (hl a (by simp))
      have e' : keyOf (a :: l) = c :: p := e
      rw [e']
      exact .inr (.inl ⟨rfl, rfl, rfl⟩)
    · have ea : keyOf (a :: l) = keyOne a ++ keyOf l := rfl
      have eb : keyOf (b :: r) = keyOne b ++ keyOf r := rfl
      rw [ea, eb]
      rcases cmpV_key a b (hl a (by simp)) (hr b (by simp)) with ⟨h1, h2⟩ | ⟨h1, h2⟩ | ⟨h1, rfl⟩
      · exact .inl ⟨by simp [cmpL, h1], (h2 _ _).1, (h2 _ _).2⟩
      · exact .inr (.inl ⟨by simp [cmpL, h1], (h2 _ _).2, (h2 _ _).1⟩)
      · rw [bl_pre, bl_pre]
        have hc : cmpL (a :: l) (a :: r) = cmpL l r := by simp [cmpL, h1]
        rw [hc]
        rcases ih r (fun v hv => hl v (by simp [hv])) (fun v hv => hr v (by simp [hv])) with h | h | ⟨h, rfl⟩
        · exact .inl h
        · exact .inr (.inl h)
        · exact .inr (.inr ⟨h, rfl⟩)

end Go.Proofs.Ytcmagjeplofagaa
