/-
  Plain facts on frames: a frame's bytes, the first frame of a row of bytes, all of them.
-/
import Derived.Test.YtkmcnkonkalfkaaDoorPureS
namespace Go.Proofs.YtkmcnkonkalfkaaDoor
open Go.RowKit

theorem nat_bytes4 (n : Nat) : (n : Int) / 16777216 % 256 = ((UInt8.ofNat (n / 2 ^ (8 * 3))).toNat : Int) ∧ (n : Int) / 65536 % 256 = ((UInt8.ofNat (n / 2 ^ (8 * 2))).toNat : Int) ∧ (n : Int) / 256 % 256 = ((UInt8.ofNat (n / 2 ^ (8 * 1))).toNat : Int) ∧ (n : Int) % 256 = ((UInt8.ofNat (n / 2 ^ (8 * 0))).toNat : Int) := by
  have b3 := high_byte n 3
  have b2 := high_byte n 2
  have b1 := high_byte n 1
  have b0 := high_byte n 0
  rw [show ((2 : Int) ^ (8 * 3)) = 16777216 from by decide] at b3
  rw [show ((2 : Int) ^ (8 * 2)) = 65536 from by decide] at b2
  rw [show ((2 : Int) ^ (8 * 1)) = 256 from by decide] at b1
  rw [show ((2 : Int) ^ (8 * 0)) = 1 from by decide, Int.ediv_one] at b0
  exact ⟨b3, b2, b1, b0⟩

/-- The first four bytes of the sum of h and p. -/
def sum4 (h p : List UInt8) : List UInt8 := (sha (h ++ p)).take 4
theorem sum4_length (h p : List UInt8) : (sum4 h p).length = 4 := by
  unfold sum4
  rw [List.length_take, sha_length]
  rfl
/-- A frame. -/
def frameL (p : List UInt8) : List UInt8 := high p.length 4 ++ (sum4 (high p.length 4) p ++ p)
theorem frameL_length (p : List UInt8) : (frameL p).length = 8 + p.length := by
  unfold frameL
  rw [List.length_append, List.length_append, high_length, sum4_length]
  omega
/-- The payload of the frame with which p begins. -/
def firstL (p : List UInt8) : Option (List UInt8) :=
  if p.length < 8 then none
  else if 1048576 < rdN (p.take 4) ∨ p.length - 8 < rdN (p.take 4) then none
  else if (p.drop 4).take 4 = sum4 (p.take 4) ((p.drop 8).take (rdN (p.take 4))) then some ((p.drop 8).take (rdN (p.take 4)))
  else none
theorem firstL_short {p : List UInt8} (h : p.length < 8) : firstL p = none := by unfold firstL; rw [if_pos h]
theorem firstL_long {p : List UInt8} (h : 1048576 < rdN (p.take 4) ∨ p.length - 8 < rdN (p.take 4)) : firstL p = none := by
  unfold firstL
  by_cases h8 : p.length < 8
  · rw [if_pos h8]
  · rw [if_neg h8, if_pos h]
theorem firstL_rest {p : List UInt8} (h8 : ¬ p.length < 8) (h : ¬ (1048576 < rdN (p.take 4) ∨ p.length - 8 < rdN (p.take 4))) :
    firstL p = if (p.drop 4).take 4 = sum4 (p.take 4) ((p.drop 8).take (rdN (p.take 4))) then some ((p.drop 8).take (rdN (p.take 4))) else none := by
  unfold firstL
  rw [if_neg h8, if_neg h]
theorem firstL_len {p q : List UInt8} (h : firstL p = some q) : 8 + q.length ≤ p.length ∧ q.length ≤ 1048576 := by
  by_cases h8 : p.length < 8
  · rw [firstL_short h8] at h
    cases h
  · by_cases hb : 1048576 < rdN (p.take 4) ∨ p.length - 8 < rdN (p.take 4)
    · rw [firstL_long hb] at h
      cases h
    · rw [firstL_rest h8 hb] at h
      split at h
      · injection h with h
        subst h
        rw [List.length_take, List.length_drop]
        omega
      · cases h
theorem parts4 (h s t : List UInt8) (h4 : h.length = 4) (s4 : s.length = 4) : (h ++ (s ++ t)).take 4 = h ∧ ((h ++ (s ++ t)).drop 4).take 4 = s ∧ (h ++ (s ++ t)).drop 8 = t := by
  refine ⟨?_, ?_, ?_⟩
  · rw [List.take_left' h4]
  · rw [List.drop_left' h4, List.take_left' s4]
  · rw [show 8 = 4 + 4 from rfl, ← List.drop_drop, List.drop_left' h4, List.drop_left' s4]
theorem frame_parts (q r : List UInt8) : (frameL q ++ r).take 4 = high q.length 4 ∧ ((frameL q ++ r).drop 4).take 4 = sum4 (high q.length 4) q ∧ (frameL q ++ r).drop 8 = q ++ r := by
  have e : frameL q ++ r = high q.length 4 ++ (sum4 (high q.length 4) q ++ (q ++ r)) := by unfold frameL; simp [List.append_assoc]
  rw [e]
  exact parts4 _ _ _ (high_length _ _) (sum4_length _ _)
theorem rdN_high4 (n : Nat) (h : n ≤ 1048576) : rdN (high n 4) = n := by
  rw [rdN_high]
  exact Nat.mod_eq_of_lt (by have : (2 : Nat) ^ (8 * 4) = 4294967296 := by decide
                             omega)
theorem first_frame (q r : List UInt8) (hq : q.length ≤ 1048576) : firstL (frameL q ++ r) = some q := by
  obtain ⟨p1, p2, p3⟩ := frame_parts q r
  have hl : (frameL q ++ r).length = 8 + q.length + r.length := by rw [List.length_append, frameL_length]
  unfold firstL
  rw [if_neg (by omega), p1, rdN_high4 _ hq, if_neg (by omega), p3, List.take_left, p2, if_pos rfl]
theorem first_torn (q r : List UInt8) (j : Nat) (hq : q.length ≤ 1048576) (hj : j < 8 + q.length) : firstL ((frameL q ++ r).take j) = none := by
  have hl : ((frameL q ++ r).take j).length = j := by rw [List.length_take, List.length_append, frameL_length]; omega
  by_cases h8 : j < 8
  · exact firstL_short (by omega)
  · refine firstL_long (.inr ?_)
    rw [List.take_take, show min 4 j = 4 by omega, (frame_parts q r).1, rdN_high4 _ hq, hl]
    omega
theorem take_parts (p : List UInt8) (n : Nat) : p.take (8 + n) = p.take 4 ++ ((p.drop 4).take 4 ++ (p.drop 8).take n) := by
  rw [show 8 + n = 4 + (4 + n) by omega, List.take_add, List.take_add, List.drop_drop]
theorem frame_eq (p : List UInt8) (h8 : 8 ≤ p.length) (n : Nat) (hn : rdN (p.take 4) = n) (hle : n ≤ p.length - 8) :
    (frameL ((p.drop 8).take n) == p.take (8 + n)) = decide ((p.drop 4).take 4 = sum4 (p.take 4) ((p.drop 8).take n)) := by
  have h4 : (p.take 4).length = 4 := by rw [List.length_take]; omega
  have hh : high n 4 = p.take 4 := by
    have := high_rdN (p.take 4)
    rw [hn, h4] at this
    exact this
  have hq : ((p.drop 8).take n).length = n := by rw [List.length_take, List.length_drop]; omega
  rw [Bool.eq_iff_iff, beq_iff_eq, decide_eq_true_iff, take_parts]
  unfold frameL
  rw [hq, hh, List.append_cancel_left_eq, List.append_cancel_right_eq]
  exact eq_comm
/-- All payloads of the frames with which p begins. -/
def scanF : Nat → List UInt8 → List (List UInt8)
  | 0, _ => []
  | k + 1, p => match firstL p with
    | none => []
    | some q => q :: scanF k (p.drop (8 + q.length))
theorem scanF_nil (k : Nat) : scanF k [] = [] := by
  cases k with
  | zero => rfl
  | succ k =>
    have : firstL [] = none := firstL_short (by simp)
    simp [scanF, this]
theorem scanF_fuel : ∀ (k m : Nat) (p : List UInt8), p.length ≤ k → p.length ≤ m → scanF k p = scanF m p := by
  intro k
  induction k with
  | zero =>
    intro m p hk _
    have : p = [] := List.eq_nil_of_length_eq_zero (by omega)
    rw [this, scanF_nil, scanF_nil]
  | succ k ih =>
    intro m p hk hm
    cases m with
    | zero =>
      have : p = [] := List.eq_nil_of_length_eq_zero (by omega)
      rw [this, scanF_nil, scanF_nil]
    | succ m =>
      cases h : firstL p with
      | none => simp [scanF, h]
      | some q =>
        have hl := (firstL_len h).1
        have hd : (p.drop (8 + q.length)).length = p.length - (8 + q.length) := List.length_drop
        simp only [scanF, h]
        rw [ih m _ (by omega) (by omega)]
def scanL (p : List UInt8) : List (List UInt8) := scanF p.length p
theorem scanL_none {p : List UInt8} (h : firstL p = none) : scanL p = [] := by
  have : scanL p = scanF (p.length + 1) p := scanF_fuel _ _ _ (Nat.le_refl _) (Nat.le_succ _)
  rw [this]
  simp [scanF, h]
theorem scanL_some {p q : List UInt8} (h : firstL p = some q) : scanL p = q :: scanL (p.drop (8 + q.length)) := by
  have : scanL p = scanF (p.length + 1) p := scanF_fuel _ _ _ (Nat.le_refl _) (Nat.le_succ _)
  rw [this]
  simp only [scanF, h]
  congr 1
  exact scanF_fuel _ _ _ (by rw [List.length_drop]; omega) (Nat.le_refl _)
/-- How many bytes the frames of these payloads have. -/
def sizeL : List (List UInt8) → Nat
  | [] => 0
  | q :: L => 8 + q.length + sizeL L
theorem sizeL_append (L M : List (List UInt8)) : sizeL (L ++ M) = sizeL L + sizeL M := by
  induction L with
  | nil => simp [sizeL]
  | cons q L ih => simp only [List.cons_append, sizeL, ih]; omega
theorem sizeL_snoc (L : List (List UInt8)) (q : List UInt8) : sizeL (L ++ [q]) = sizeL L + (8 + q.length) := by
  rw [sizeL_append]
  simp [sizeL]
theorem scanF_size : ∀ (k : Nat) (p : List UInt8), sizeL (scanF k p) ≤ p.length := by
  intro k
  induction k with
  | zero => intro p; simp [scanF, sizeL]
  | succ k ih =>
    intro p
    cases h : firstL p with
    | none => simp [scanF, h, sizeL]
    | some q =>
      have hl := (firstL_len h).1
      have := ih (p.drop (8 + q.length))
      rw [List.length_drop] at this
      simp only [scanF, h, sizeL]
      omega
theorem scanL_size (p : List UInt8) : sizeL (scanL p) ≤ p.length := scanF_size _ _
def allL (L : List (List UInt8)) : List UInt8 := L.flatMap frameL
theorem allL_nil : allL [] = [] := rfl
theorem allL_cons (q : List UInt8) (L : List (List UInt8)) : allL (q :: L) = frameL q ++ allL L := rfl
theorem allL_append (L M : List (List UInt8)) : allL (L ++ M) = allL L ++ allL M := by simp [allL]
theorem allL_snoc (L : List (List UInt8)) (q : List UInt8) : allL (L ++ [q]) = allL L ++ frameL q := by simp [allL]
theorem allL_length (L : List (List UInt8)) : (allL L).length = sizeL L := by
  induction L with
  | nil => rfl
  | cons q L ih => rw [allL_cons, List.length_append, frameL_length, ih]; rfl
theorem scan_all (L : List (List UInt8)) (r : List UInt8) (h : ∀ q ∈ L, q.length ≤ 1048576) : scanL (allL L ++ r) = L ++ scanL r := by
  induction L with
  | nil => rfl
  | cons q L ih =>
    have hq := h q (List.mem_cons_self ..)
    have hf : firstL (allL (q :: L) ++ r) = some q := by rw [allL_cons, List.append_assoc]; exact first_frame _ _ hq
    rw [scanL_some hf, allL_cons, List.append_assoc, List.drop_left' (frameL_length q), ih fun x hx => h x (List.mem_cons_of_mem _ hx)]
    rfl
/-- A number of bytes of frames: those that are whole are found. -/
theorem scan_torn (L : List (List UInt8)) (k m : Nat) (h : ∀ q ∈ L, q.length ≤ 1048576) (hm : m < L.length) (h1 : sizeL (L.take m) ≤ k) (h2 : k < sizeL (L.take (m + 1))) :
    scanL ((allL L).take k) = L.take m := by
  have e : allL L = allL (L.take m) ++ (frameL L[m] ++ allL (L.drop (m + 1))) := by
    have e0 : L = L.take m ++ (L[m] :: L.drop (m + 1)) := by rw [← List.drop_eq_getElem_cons hm, List.take_append_drop]
    rw [← allL_cons, ← allL_append, ← e0]
  have hs : L.take (m + 1) = L.take m ++ [L[m]] := List.take_succ_eq_append_getElem hm
  rw [hs, sizeL_snoc] at h2
  have hlen := allL_length (L.take m)
  rw [e, List.take_append, List.take_of_length_le (by omega), scan_all _ _ fun q hq => h q (List.mem_of_mem_take hq)]
  rw [scanL_none (first_torn _ _ _ (h _ (List.getElem_mem hm)) (by omega)), List.append_nil]
/-- What stands behind the first frames does not hide them. -/
theorem scan_ahead (L : List (List UInt8)) (m : Nat) (p : List UInt8) (h : ∀ q ∈ L, q.length ≤ 1048576) (hp : p.take (sizeL (L.take m)) = allL (L.take m)) :
    ∃ r, scanL p = L.take m ++ r := by
  refine ⟨scanL (p.drop (sizeL (L.take m))), ?_⟩
  have e : p = allL (L.take m) ++ p.drop (sizeL (L.take m)) := by rw [← hp, List.take_append_drop]
  have := scan_all (L.take m) (p.drop (sizeL (L.take m))) fun q hq => h q (List.mem_of_mem_take hq)
  rw [← e] at this
  exact this

end Go.Proofs.YtkmcnkonkalfkaaDoor
