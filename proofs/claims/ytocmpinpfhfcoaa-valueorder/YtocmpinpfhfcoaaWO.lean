/-
  The walks of the program's Compare of values, and of what it calls of the library.
-/
import Derived.Test.YtocmpinpfhfcoaaWC
import Derived.Test.YtocmpinpfhfcoaaQH
import Derived.StillTailTactics
namespace Go.Proofs.Ytocmpinpfhfcoaa
open Go.RowKit
open Go.Op (bytesLess)

def cmpI (a b : Int) : Int := if a < b then -1 else if b < a then 1 else 0
def cmpS (s t : ByteArray) : Int := if bytesLess s.toList t.toList = true then -1 else if bytesLess t.toList s.toList = true then 1 else 0
/-- As the program asks: kind, number, text, the first that is not alike. -/
def cmpP (a b : V) : Int := if cmpI a.k b.k ≠ 0 then cmpI a.k b.k else if cmpI a.n b.n ≠ 0 then cmpI a.n b.n else cmpS a.s b.s

theorem cmpP_eq (a b : V) (ha : a.Ok) (hb : b.Ok) : cmpP a b = cmpV a b := by
  rcases ha.cases with rfl | ⟨m, rfl, hm1, hm2⟩ | ⟨s, rfl, hs⟩ <;> rcases hb.cases with rfl | ⟨n, rfl, hn1, hn2⟩ | ⟨t, rfl, ht⟩
  · simp [cmpP, cmpV, cmpI, cmpS, V.none, bl_irr]
  · simp [cmpP, cmpV, cmpI, V.none]
  · simp [cmpP, cmpV, cmpI, V.none]
  · simp [cmpP, cmpV, cmpI, V.none]
  · rcases Int.lt_trichotomy m n with h | h | h
    · simp [cmpP, cmpV, cmpI, h]
    · subst h
      simp [cmpP, cmpV, cmpI, cmpS, bl_irr]
    · have h' : ¬ m < n := by omega
      simp [cmpP, cmpV, cmpI, bl_irr, h, h']
  · simp [cmpP, cmpV, cmpI]
  · simp [cmpP, cmpV, cmpI, V.none]
  · simp [cmpP, cmpV, cmpI]
  · simp [cmpP, cmpV, cmpI, cmpS]

set_option maxHeartbeats 1000000 in
theorem cmpByte_any (a b : Int) (w : World) : Calls Try.prog 14 #[.int .u8 a, .int .u8 b] w fun e w' => e = .returned (.int .i64 (cmpI a b)) ∧ w = w' := by
  rcases Int.lt_trichotomy a b with h | h | h
  · have HC : Hid (cmpI a b = -1) := Lib.hid (by simp [cmpI, h])
    have t1 : decide (a < b) = true := decide_eq_true h
    go_enter Try.func14, Try.ntmps14
    go_wp2
    go_ret
    rw [HC.out]
    exact ⟨rfl, rfl⟩
  · subst h
    have HC : Hid (cmpI a a = 0) := Lib.hid (by simp [cmpI])
    have t1 : decide (a < a) = false := decide_eq_false (by omega)
    go_enter Try.func14, Try.ntmps14
    go_wp2
    go_ret
    rw [HC.out]
    exact ⟨rfl, rfl⟩
  · have h' : ¬ a < b := by omega
    have HC : Hid (cmpI a b = 1) := Lib.hid (by simp [cmpI, h, h'])
    have t1 : decide (a < b) = false := decide_eq_false h'
    have t2 : decide (b < a) = true := decide_eq_true h
    go_enter Try.func14, Try.ntmps14
    go_wp2
    go_ret
    rw [HC.out]
    exact ⟨rfl, rfl⟩

set_option maxHeartbeats 1000000 in
theorem cmpInt_any (a b : Int) (w : World) : Calls Try.prog 15 #[.int .i64 a, .int .i64 b] w fun e w' => e = .returned (.int .i64 (cmpI a b)) ∧ w = w' := by
  rcases Int.lt_trichotomy a b with h | h | h
  · have HC : Hid (cmpI a b = -1) := Lib.hid (by simp [cmpI, h])
    have t1 : decide (a < b) = true := decide_eq_true h
    go_enter Try.func15, Try.ntmps15
    go_wp2
    go_ret
    rw [HC.out]
    exact ⟨rfl, rfl⟩
  · subst h
    have HC : Hid (cmpI a a = 0) := Lib.hid (by simp [cmpI])
    have t1 : decide (a < a) = false := decide_eq_false (by omega)
    go_enter Try.func15, Try.ntmps15
    go_wp2
    go_ret
    rw [HC.out]
    exact ⟨rfl, rfl⟩
  · have h' : ¬ a < b := by omega
    have HC : Hid (cmpI a b = 1) := Lib.hid (by simp [cmpI, h, h'])
    have t1 : decide (a < b) = false := decide_eq_false h'
    have t2 : decide (b < a) = true := decide_eq_true h
    go_enter Try.func15, Try.ntmps15
    go_wp2
    go_ret
    rw [HC.out]
    exact ⟨rfl, rfl⟩

set_option maxHeartbeats 1000000 in
theorem cmpStr_any (s t : ByteArray) (w : World) : Calls Try.prog 16 #[.string s, .string t] w fun e w' => e = .returned (.int .i64 (cmpS s t)) ∧ w = w' := by
  rcases bl_tri s.toList t.toList with ⟨h1, h2, h3⟩ | ⟨h1, h2, h3⟩ | ⟨h1, h2, h3⟩
  · have HC : Hid (cmpS s t = -1) := Lib.hid (by simp [cmpS, h1])
    clear h3
    go_enter Try.func16, Try.ntmps16
    go_wp2
    go_ret
    rw [HC.out]
    exact ⟨rfl, rfl⟩
  · have HC : Hid (cmpS s t = 1) := Lib.hid (by simp [cmpS, h1, h2])
    have h4 : (s.toList == t.toList) = false := by simpa using h3
    clear h3
    go_enter Try.func16, Try.ntmps16
    go_wp2
    go_ret
    rw [HC.out]
    exact ⟨rfl, rfl⟩
  · have HC : Hid (cmpS s t = 0) := Lib.hid (by simp [cmpS, h1, h2])
    have h4 : (s.toList == t.toList) = true := by simpa using h3
    clear h3
    go_enter Try.func16, Try.ntmps16
    go_wp2
    go_ret
    rw [HC.out]
    exact ⟨rfl, rfl⟩

/-- The first that is not 0. -/
def firstNZ : List Int → Int
  | [] => 0
  | a :: l => if a ≠ 0 then a else firstNZ l

set_option maxHeartbeats 1000000 in
theorem or_any (g : Nat) (l : List Int) (w : World) (hl : l.length = 3) (hc : ∀ j, j < 3 → w.cell? ⟨g, j, none⟩ = some (.int .i64 (l.getD j 0))) :
    Calls Try.prog 13 #[.slice (some ⟨g, 0, none⟩) 3 3] w fun e w' => e = .returned (.int .i64 (firstNZ l)) ∧ w = w' := by
  have HL := Lib.hid hl
  have HC := Lib.hid hc
  clear hl hc
  go_enter Try.func13, Try.ntmps13
  go_wp2
  go_loop [5, 8] (fun _ i => ∃ k : Nat, k ≤ 3 ∧ i = .int .i64 k ∧ firstNZ l = firstNZ (l.drop k)) (fun _ i => 3 - (intOf i).toNat)
  case atStart => exact ⟨0, by omega, rfl, rfl⟩
  case round =>
    obtain ⟨k, hk, rfl, he⟩ := hrel
    by_cases hlt : k < 3
    · have c0 := HC.out k hlt
      have hd : l.drop k = l.getD k 0 :: l.drop (k + 1) := by
        rw [List.drop_eq_getElem_cons (by rw [HL.out]; exact hlt), List.getD_eq_getElem?_getD, List.getElem?_eq_getElem (by rw [HL.out]; exact hlt)]
        rfl
      rw [hd, firstNZ] at he
      clear hd
      generalize l.getD k 0 = x at *
      have t0 : decide ((k : Int) < 3) = true := decide_eq_true (by omega)
      by_cases hx : x = 0
      · have t1 : (x != 0) = false := by simpa using hx
        rw [if_neg (by simpa using hx)] at he
        have HE := Lib.hid he
        clear he hx
        go_wp2
        go_round
        case rel => exact ⟨k + 1, by omega, by go_num, HE.out⟩
        case measure => simp [intOf]; omega
      · have t1 : (x != 0) = true := by simpa using hx
        rw [if_pos hx] at he
        have HE := Lib.hid he
        clear he
        go_wp2
        go_ret
        rw [HE.out]
        exact ⟨rfl, rfl⟩
    · obtain rfl : k = 3 := by omega
      rw [List.drop_of_length_le (by rw [HL.out]; omega)] at he
      have HE := Lib.hid he
      clear he
      have t0 : decide ((3 : Int) < 3) = false := rfl
      rw [show ((3 : Nat) : Int) = 3 from rfl]
      go_wp2
      go_ret
      rw [HE.out]
      exact ⟨rfl, rfl⟩

set_option maxHeartbeats 2000000 in
theorem compare_any (a b : V) (w : World) :
    Calls Try.prog 6 #[.agg #[.int .u8 a.k, .int .i64 a.n, .string a.s], .agg #[.int .u8 b.k, .int .i64 b.n, .string b.s]] w fun e w' => e = .returned (.int .i64 (cmpP a b)) ∧ Below w.heap.size w w' := by
  have HP : Hid (cmpP a b = firstNZ [cmpI a.k b.k, cmpI a.n b.n, cmpS a.s b.s]) := Lib.hid (by
    unfold cmpP
    simp only [firstNZ]
    split
    · rfl
    · split
      · rfl
      · by_cases h : cmpS a.s b.s = 0
        · rw [h]; rfl
        · rw [if_pos h])
  have s1 : ∀ W, Calls Try.prog 14 #[.int .u8 a.k, .int .u8 b.k] W fun e w' => e = .returned (.int .i64 (cmpI a.k b.k)) ∧ w' = W := fun W => (cmpByte_any _ _ W).mono fun _ _ h => ⟨h.1, h.2.symm⟩
  have s2 : ∀ W, Calls Try.prog 15 #[.int .i64 a.n, .int .i64 b.n] W fun e w' => e = .returned (.int .i64 (cmpI a.n b.n)) ∧ w' = W := fun W => (cmpInt_any _ _ W).mono fun _ _ h => ⟨h.1, h.2.symm⟩
  have s3 : ∀ W, Calls Try.prog 16 #[.string a.s, .string b.s] W fun e w' => e = .returned (.int .i64 (cmpS a.s b.s)) ∧ w' = W := fun W => (cmpStr_any _ _ W).mono fun _ _ h => ⟨h.1, h.2.symm⟩
  have S1 := Lib.hid s1
  have S2 := Lib.hid s2
  have S3 := Lib.hid s3
  clear s1 s2 s3
  go_enter Try.func6, Try.ntmps6
  go_wp2_with fail
  refine wp_region_still_tail 15 (by kernel_rfl) (by kernel_rfl) ?_
  simp only [List.take_succ_cons, List.take_zero, List.drop_succ_cons, List.drop_zero]
  change wpStill _ _ ((w.alloc (.cells #[.int .u8 a.k, .int .i64 a.n, .string a.s] 24)).alloc (.cells #[.int .u8 b.k, .int .i64 b.n, .string b.s] 24)).drew _ _ _
  repeat
    refine wpStill_step (fun K hK => ?_)
    go_simp
    first
      | (refine hK _ ?_; clear hK K)
      | (refine ⟨_, S1.out _, hK _ ?_⟩; clear hK K)
      | (refine ⟨_, S2.out _, hK _ ?_⟩; clear hK K)
      | (refine ⟨_, S3.out _, hK _ ?_⟩; clear hK K)
  refine wpStill_nil ?_
  change wpList _ _ _ _ _ ((w.alloc (.cells #[.int .u8 a.k, .int .i64 a.n, .string a.s] 24)).alloc (.cells #[.int .u8 b.k, .int .i64 b.n, .string b.s] 24)).drew
  have hbW : Below w.heap.size w ((w.alloc (.cells #[.int .u8 a.k, .int .i64 a.n, .string a.s] 24)).alloc (.cells #[.int .u8 b.k, .int .i64 b.n, .string b.s] 24)).drew := (((Below.refl _ _).alloc (Nat.le_refl _) _).alloc (by simp) _).drew
  generalize ((w.alloc (.cells #[.int .u8 a.k, .int .i64 a.n, .string a.s] 24)).alloc (.cells #[.int .u8 b.k, .int .i64 b.n, .string b.s] 24)).drew = W at *
  generalize cmpI a.k b.k = x at *
  generalize cmpI a.n b.n = y at *
  generalize cmpS a.s b.s = z at *
  go_wp2_with fail
  have hcs : ∀ j, j < 3 → (W.alloc (.cells #[.int .i64 x, .int .i64 y, .int .i64 z] 3)).cell? ⟨W.heap.size, j, none⟩ = some (.int .i64 ([x, y, z].getD j 0)) := by
    intro j hj
    rw [World.cell?_alloc_new]
    match j, hj with
    | 0, _ | 1, _ | 2, _ => rfl
  refine (or_any W.heap.size [x, y, z] _ rfl hcs).mono ?_
  rintro e w9 ⟨rfl, rfl⟩
  clear hcs
  rw [← HP.out]
  go_wp2
  go_ret
  exact ⟨rfl, hbW.alloc (Nat.le_trans hbW.size (Nat.le_refl _)) _⟩

theorem compare_ok (a b : V) (ha : a.Ok) (hb : b.Ok) (w : World) :
    Calls Try.prog 6 #[.agg #[.int .u8 a.k, .int .i64 a.n, .string a.s], .agg #[.int .u8 b.k, .int .i64 b.n, .string b.s]] w fun e w' => e = .returned (.int .i64 (cmpV a b)) ∧ Below w.heap.size w w' := by
  rw [← cmpP_eq a b ha hb]
  exact compare_any a b w

/-- What the law asks of the order. -/
theorem cmpV_neg (a b : V) (ha : a.Ok) (hb : b.Ok) : cmpV a b = -(cmpV b a) := by
  rcases cmpV_key a b ha hb with ⟨h1, h2⟩ | ⟨h1, h2⟩ | ⟨h1, rfl⟩
  · rcases cmpV_key b a hb ha with ⟨g1, g2⟩ | ⟨g1, g2⟩ | ⟨g1, rfl⟩
    · have := (h2 [] []).1
      rw [(g2 [] []).2] at this
      cases this
    · rw [h1, g1]
    · rw [h1] at g1
      cases g1
  · rcases cmpV_key b a hb ha with ⟨g1, g2⟩ | ⟨g1, g2⟩ | ⟨g1, rfl⟩
    · rw [h1, g1]; rfl
    · have := (h2 [] []).1
      rw [(g2 [] []).2] at this
      cases this
    · rw [h1] at g1
      cases g1
  · rw [h1]; rfl
theorem cmpV_self (a : V) (ha : a.Ok) : cmpV a a = 0 := by
  have := cmpV_neg a a ha ha
  omega
theorem cmpV_zero (a b : V) (ha : a.Ok) (hb : b.Ok) : (cmpV a b = 0) ↔ a = b := by
  constructor
  · intro h
    rcases cmpV_key a b ha hb with ⟨h1, _⟩ | ⟨h1, _⟩ | ⟨_, h2⟩
    · rw [h1] at h; cases h
    · rw [h1] at h; cases h
    · exact h2
  · rintro rfl
    exact cmpV_self a ha

end Go.Proofs.Ytocmpinpfhfcoaa
