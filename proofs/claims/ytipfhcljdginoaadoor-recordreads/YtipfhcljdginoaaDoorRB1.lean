/-
  May a batch be? Of both sides.
-/
import Derived.Test.YtipfhcljdginoaaDoorRA6
namespace Go.Proofs.YtipfhcljdginoaaDoor
open Go.RowKit

/-- The sizes of a write are right. -/
def szW (x : Wr6) : Bool := !(x.gone && decide (0 < x.row.length)) && (decide (x.key.size ≤ 4000) && decide (x.row.length ≤ 4000))
/-- Each key stands above the one ahead of it (above 'last' the first), and the sizes are right. -/
def rightL : ByteArray → List Wr6 → Bool
  | _, [] => true
  | last, x :: xs => if sle x.key last || !szW x then false else rightL x.key xs
def rightB (n : Int) (D : List Wr6) : Bool := !(decide (n < 1) || (decide (D.length < 1) || decide (64 < D.length))) && rightL ⟨#[]⟩ D

theorem SegW.at_ {w : World} {A : Option Addr} {n : Nat} {D : List Wr6} (h : SegW w A n D) {k : Nat} (hk : k < n) (x : Wr6) (hx : D[k]? = some x) :
    ∃ g o B m c, A = some ⟨g, o, none⟩ ∧ w.cell? ⟨g, o + k * 3, none⟩ = some (.string x.key) ∧ w.cell? ⟨g, o + k * 3 + 1, none⟩ = some (.slice B m c) ∧ w.cell? ⟨g, o + k * 3 + 2, none⟩ = some (.bool x.gone) ∧
      Seg w B m x.row ∧ m ≤ c ∧ c ≤ maxLen := by
  obtain ⟨g, o, s, e, hc, h1, h2, h3, h4, h5⟩ := SegN.at_ h hk
  have e1 : D[k]'(by rw [h.len]; exact hk) = x := (List.getElem?_eq_some_iff.1 hx).2
  rw [e1] at h1 h2 h5
  refine ⟨g, o, s.A, s.m, s.c, e, ?_, hc 1 _ rfl, ?_, h2, h3, h4⟩
  · rw [h1]; exact hc 0 _ rfl
  · rw [h5]; exact hc 2 _ rfl
theorem rightL_at {D : List Wr6} {j : Nat} {x : Wr6} {last : ByteArray} (hx : D[j]? = some x) : rightL last (D.drop j) = if sle x.key last || !szW x then false else rightL x.key (D.drop (j + 1)) := by
  have hj : j < D.length := (List.getElem?_eq_some_iff.1 hx).1
  have e : D[j]'hj = x := (List.getElem?_eq_some_iff.1 hx).2
  rw [List.drop_eq_getElem_cons hj, e]
  rfl
theorem sle_nil (s : ByteArray) : sle s ⟨#[]⟩ = decide (s.size < 1) := by
  unfold sle
  rw [ByteArray.toList_eq, ByteArray.toList_eq]
  have h1 : Op.bytesLess s.data.toList ([] : List UInt8) = false := by cases s.data.toList <;> rfl
  show (Op.bytesLess s.data.toList [] || s.data.toList == []) = _
  rw [h1, Bool.false_or]
  have hs : s.size = s.data.toList.length := (Array.length_toList (xs := s.data)).symm
  rw [hs]
  cases s.data.toList with
  | nil => rfl
  | cons a l => simp
theorem sle_short {s t : ByteArray} (h : s.size < 1) : sle s t = true := by
  have hs : s.data.toList = [] := by
    have : s.size = s.data.toList.length := (Array.length_toList (xs := s.data)).symm
    exact List.eq_nil_of_length_eq_zero (by omega)
  unfold sle
  rw [ByteArray.toList_eq, ByteArray.toList_eq, hs]
  cases t.data.toList with
  | nil => rfl
  | cons a l => rfl

set_option maxHeartbeats 4000000 in
theorem rightSizes_any (x : Wr6) (B : Option Addr) (m c : Nat) (w : World) (hm : x.row.length = m) :
    Calls Tryd.prog 26 #[.agg #[.string x.key, .slice B m c, .bool x.gone]] w fun e w' => e = .returned (.bool (szW x)) ∧ Below w.heap.size w w' := by
  obtain ⟨key, row, gone⟩ := x
  simp only at hm ⊢
  unfold szW
  simp only [hm]
  obtain ⟨q, hq⟩ : ∃ q, key.size = q := ⟨_, rfl⟩
  rw [hq]
  rcases gone with _ | _
  · by_cases h1 : q ≤ 4000
    · by_cases h2 : m ≤ 4000
      · have d1 : decide ((q : Int) ≤ 4000) = true := decide_eq_true (by omega)
        have d2 : decide ((m : Int) ≤ 4000) = true := decide_eq_true (by omega)
        rw [decide_eq_true h1, decide_eq_true h2]
        go_enter Tryd.func26, Tryd.ntmps26
        go_wp2
        go_ret
        exact ⟨by simp, (Below.refl _ _).alloc (Nat.le_refl _) _⟩
      · have d1 : decide ((q : Int) ≤ 4000) = true := decide_eq_true (by omega)
        have d2 : decide ((m : Int) ≤ 4000) = false := decide_eq_false (by omega)
        rw [decide_eq_true h1, decide_eq_false h2]
        go_enter Tryd.func26, Tryd.ntmps26
        go_wp2
        go_ret
        exact ⟨by simp, (Below.refl _ _).alloc (Nat.le_refl _) _⟩
    · have d1 : decide ((q : Int) ≤ 4000) = false := decide_eq_false (by omega)
      rw [decide_eq_false h1]
      go_enter Tryd.func26, Tryd.ntmps26
      go_wp2
      go_ret
      exact ⟨by simp, (Below.refl _ _).alloc (Nat.le_refl _) _⟩
  · by_cases h0 : 0 < m
    · have d0 : decide ((0 : Int) < (m : Int)) = true := decide_eq_true (by omega)
      rw [decide_eq_true h0]
      go_enter Tryd.func26, Tryd.ntmps26
      go_wp2
      go_ret
      exact ⟨by simp, (Below.refl _ _).alloc (Nat.le_refl _) _⟩
    · have d0 : decide ((0 : Int) < (m : Int)) = false := decide_eq_false (by omega)
      rw [decide_eq_false h0]
      obtain rfl : m = 0 := by omega
      by_cases h1 : q ≤ 4000
      · have d1 : decide ((q : Int) ≤ 4000) = true := decide_eq_true (by omega)
        rw [decide_eq_true h1]
        go_enter Tryd.func26, Tryd.ntmps26
        go_wp2
        go_ret
        exact ⟨by simp, (Below.refl _ _).alloc (Nat.le_refl _) _⟩
      · have d1 : decide ((q : Int) ≤ 4000) = false := decide_eq_false (by omega)
        rw [decide_eq_false h1]
        go_enter Tryd.func26, Tryd.ntmps26
        go_wp2
        go_ret
        exact ⟨by simp, (Below.refl _ _).alloc (Nat.le_refl _) _⟩

set_option maxHeartbeats 8000000 in
theorem right_any (N : Int) (A : Option Addr) (n c : Nat) (D : List Wr6) (w : World) (ha : SegW w A n D) (hn : n ≤ 1000000) :
    Calls Tryd.prog 13 #[.agg #[.int .i64 N, .slice A n c]] w fun e w' => e = .returned (.bool (rightB N D)) ∧ Below w.heap.size w w' := by
  have hl := ha.len
  have hb1 : Below w.heap.size w (w.alloc (.cells #[.int .i64 N, .slice A n c] 26)) := (Below.refl _ w).alloc (Nat.le_refl _) _
  have h1 := ha.below hb1
  have hcell : (w.alloc (.cells #[.int .i64 N, .slice A n c] 26)).cell? ⟨w.heap.size, 1, none⟩ = some (.slice A n c) := by simp
  unfold rightB
  rw [hl]
  by_cases g0 : N < 1
  · rw [decide_eq_true g0]
    have d0 : decide (N < 1) = true := decide_eq_true g0
    go_enter Tryd.func13, Tryd.ntmps13
    go_wp2
    go_ret
    exact ⟨rfl, hb1⟩
  · rw [decide_eq_false g0]
    have d0 : decide (N < 1) = false := decide_eq_false g0
    by_cases g1 : n < 1
    · rw [decide_eq_true g1]
      have d1 : decide ((n : Int) < 1) = true := decide_eq_true (by omega)
      go_enter Tryd.func13, Tryd.ntmps13
      go_wp2
      go_ret
      exact ⟨rfl, hb1⟩
    · rw [decide_eq_false g1]
      have d1 : decide ((n : Int) < 1) = false := decide_eq_false (by omega)
      by_cases g2 : 64 < n
      · rw [decide_eq_true g2]
        have d2 : decide ((64 : Int) < (n : Int)) = true := decide_eq_true (by omega)
        go_enter Tryd.func13, Tryd.ntmps13
        go_wp2
        go_ret
        exact ⟨rfl, hb1⟩
      · rw [decide_eq_false g2]
        have d2 : decide ((64 : Int) < (n : Int)) = false := decide_eq_false (by omega)
        simp only [Bool.or_false, Bool.not_false, Bool.true_and]
        obtain ⟨Z, hZ⟩ : ∃ Z, rightL ⟨#[]⟩ D = Z := ⟨_, rfl⟩
        rw [hZ]
        have HZ0 := Lib.hid (show rightL ⟨#[]⟩ (D.drop 0) = Z from hZ)
        have HL := Lib.hid hl
        clear hZ ha hl
        go_enter Tryd.func13, Tryd.ntmps13
        go_wp2_with fail
        generalize w.alloc (.cells #[.int .i64 N, .slice A n c] 26) = w1 at *
        go_loopw [3, 5, 24] (fun s _ i w' => ∃ (j : Nat) (last : ByteArray), j ≤ n ∧ i = .int .i64 j ∧ s = .string last ∧ Hid (rightL last (D.drop j) = Z) ∧ SegW w' A n D ∧ Below w.heap.size w w') (fun _ _ i _ => n - (intOf i).toNat)
        case atStart => exact ⟨0, ⟨#[]⟩, by omega, rfl, rfl, HZ0, h1, hb1⟩
        case round =>
          clear h1 hb1 hcell HZ0
          obtain ⟨j, last, hj, rfl, rfl, HZ, hs, hbw⟩ := hrel
          by_cases hlt : j < n
          · obtain ⟨x, hx⟩ : ∃ x, D[j]? = some x := ⟨_, List.getElem?_eq_getElem (by rw [HL.out]; exact hlt)⟩
            obtain ⟨p, o, B, m, cB, rfl, c0, c1, c2, hsB, _, _⟩ := SegW.at_ hs hlt x hx
            have hz := HZ.out
            rw [rightL_at hx] at hz
            have hmx := hsB.1
            have hba : Below wr.heap.size wr (wr.alloc (.cells #[.string x.key, .slice B m cB, .bool x.gone] 45)) := (Below.refl _ _).alloc (Nat.le_refl _) _
            have hs2 := hs.below hba
            have hbw2 := Below.next' hbw hba hbw.size
            by_cases hle : sle x.key last = true
            · have hle' : (Op.bytesLess x.key.toList last.toList || x.key.toList == last.toList) = true := hle
              rw [hle, Bool.true_or, if_pos rfl] at hz
              subst hz
              clear hs hbw HZ hle hsB hmx hx
              go_wp2
              go_ret
              exact ⟨rfl, hbw2⟩
            · have hle0 : sle x.key last = false := by simpa using hle
              have hle' : (Op.bytesLess x.key.toList last.toList || x.key.toList == last.toList) = false := hle0
              rw [hle0, Bool.false_or] at hz
              have hrs := fun W => rightSizes_any x B m cB W hmx
              obtain ⟨b, hb⟩ : ∃ b, szW x = b := ⟨_, rfl⟩
              rw [hb] at hz hrs
              have HZ2 := Lib.hid hz
              have HRS := Lib.hid hrs
              clear hs hbw HZ hle hle0 hsB hmx hx hb hz hrs
              rcases b with _ | _
              · have hz := HZ2.out
                simp only [Bool.not_false, if_true] at hz
                subst hz
                go_wp2_with fail
                refine (HRS.out _).mono ?_
                rintro e w2 ⟨rfl, hb2⟩
                have hbw3 := Below.next' hbw2 hb2 hbw2.size
                clear hs2 hbw2 hba
                go_wp2
                go_ret
                exact ⟨rfl, hbw3⟩
              · have hz := HZ2.out
                simp only [Bool.not_true, Bool.false_eq_true, if_false] at hz
                have HZ3 := Lib.hid hz
                clear hz HZ2
                have y0 : (wr.alloc (.cells #[.string x.key, .slice B m cB, .bool x.gone] 45)).cell? ⟨wr.heap.size, 0, none⟩ = some (.string x.key) := by simp
                go_wp2_with fail
                refine (HRS.out _).mono ?_
                rintro e w2 ⟨rfl, hb2⟩
                have hbw3 := Below.next' hbw2 hb2 hbw2.size
                have hs3 := hs2.below hb2
                have y02 := cell_below hb2 y0
                clear hs2 hbw2 hba y0 hb2
                go_wp2
                go_roundw
                case rel => exact ⟨j + 1, x.key, hlt, by go_num, rfl, HZ3, hs3, hbw3⟩
                case measure => simp [intOf]; omega
          · obtain rfl : n = j := by omega
            have hz := HZ.out
            rw [List.drop_of_length_le (by rw [HL.out]; omega)] at hz
            subst hz
            clear HZ
            go_wp2
            go_ret
            exact ⟨rfl, hbw⟩

end Go.Proofs.YtipfhcljdginoaaDoor
