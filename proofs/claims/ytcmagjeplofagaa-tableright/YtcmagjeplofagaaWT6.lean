/-
  The walks of Check and CheckKey: the program's and the document's.
-/
import Derived.Test.YtcmagjeplofagaaWT5
import Derived.Deep.RegionHeld3
namespace Go.Proofs.Ytcmagjeplofagaa
open Go.RowKit

def allowB (c : Col) (v : V) : Bool := if v.k = 0 then c.b else decide (v.k = c.k)
def fitGo : List Col → List V → Int
  | c :: cs, v :: vs => if V.okB v = true then (if allowB c v = true then fitGo cs vs else 4) else 2
  | _, _ => 0
def fitL (cs : List Col) (vs : List V) : Int := if vs.length = cs.length then fitGo cs vs else 1
theorem fitGo_drop (cs : List Col) (vs : List V) (k : Nat) (h1 : k < cs.length) (h2 : k < vs.length) :
    fitGo (cs.drop k) (vs.drop k) = if V.okB vs[k] = true then (if allowB cs[k] vs[k] = true then fitGo (cs.drop (k + 1)) (vs.drop (k + 1)) else 4) else 2 := by
  rw [List.drop_eq_getElem_cons h1, List.drop_eq_getElem_cons h2]
  rfl
theorem fitGo_end (cs : List Col) (vs : List V) (k : Nat) (h2 : vs.length ≤ k) : fitGo (cs.drop k) (vs.drop k) = 0 := by
  rw [List.drop_of_length_le h2]
  rcases cs.drop k with _ | ⟨_, _⟩ <;> rfl

set_option maxHeartbeats 400000 in
theorem allows_any (c : Col) (v : V) (w : World) :
    Calls Try.prog 58 #[.agg #[.string c.s, .int .u8 c.k, .bool c.b], .agg #[.int .u8 v.k, .int .i64 v.n, .string v.s]] w fun e w' => e = .returned (.bool (allowB c v)) ∧ Below w.heap.size w w' := by
  by_cases h : v.k = 0
  · have h' : (v.k == 0) = true := by simp [h]
    have H := Lib.hid h
    clear h
    go_enter Try.func58, Try.ntmps58
    go_wp2
    go_ret
    exact ⟨ret_bool (by unfold allowB; rw [if_pos H.out]), ((Below.refl _ _).alloc (Nat.le_refl _) _).alloc (by simp) _⟩
  · have h' : (v.k == 0) = false := by simp [h]
    go_enter Try.func58, Try.ntmps58
    go_wp2
    go_ret
    refine ⟨ret_bool ?_, ((Below.refl _ _).alloc (Nat.le_refl _) _).alloc (by simp) _⟩
    unfold allowB
    rw [if_neg h, Bool.eq_iff_iff]
    simp

set_option maxHeartbeats 400000 in
theorem isTable_any (A : Option Addr) (n c : Nat) (t : Int) (b : Bool) (w : World) (hb : decide (0 ≤ t ∧ t < (n : Int)) = b) :
    Calls Try.prog 40 #[.slice A n c, .int .i64 t] w fun e w' => e = .returned (.bool b) ∧ w = w' := by
  have HB := Lib.hid hb
  clear hb
  by_cases h : 0 ≤ t
  · go_enter Try.func40, Try.ntmps40
    go_wp2
    go_ret
    refine ⟨ret_bool ?_, rfl⟩
    rw [← HB.out, Bool.eq_iff_iff]
    simp [h]
  · have h' : t < 0 := by omega
    go_enter Try.func40, Try.ntmps40
    go_wp2
    go_ret
    refine ⟨ret_bool ?_, rfl⟩
    rw [← HB.out, Bool.eq_iff_iff]
    simp
    omega

set_option maxHeartbeats 400000 in
theorem atMost_any (k : Int) (n : Nat) (w : World) (h0 : 0 ≤ k) (h1 : k ≤ (n : Int)) :
    Calls Try.prog 42 #[.int .i64 k, .int .i64 (n : Int)] w fun e w' => e = .returned (.int .i64 k) ∧ w = w' := by
  go_enter Try.func42, Try.ntmps42
  go_wp2
  go_ret
  exact ⟨rfl, rfl⟩

set_option maxHeartbeats 1000000 in
theorem fit_any (A B : Option Addr) (n m c d : Nat) (cs : List Col) (vs : List V) (w : World) (ha : SegC w A n cs) (hb : SegV w B m vs) (hm : m ≤ 1000000) :
    Calls Try.prog 41 #[.slice A n c, .slice B m d] w fun e w' => e = .returned (.int .i64 (fitL cs vs)) ∧ Below w.heap.size w w' := by
  have hla := ha.1
  have hlb := hb.1
  by_cases hnm : m = n
  · subst hnm
    have hne : ((m : Int) != (m : Int)) = false := by simp
    have hfl : fitL cs vs = fitGo (cs.drop 0) (vs.drop 0) := by unfold fitL; rw [if_pos (by omega)]; rfl
    have HFL := Lib.hid hfl
    clear hfl
    go_enter Try.func41, Try.ntmps41
    go_wp2
    go_loopw [14] (fun i w' => ∃ k : Nat, k ≤ m ∧ i = .int .i64 k ∧ fitL cs vs = fitGo (cs.drop k) (vs.drop k) ∧ Below w.heap.size w w') (fun i _ => m - (intOf i).toNat)
    case atStart => exact ⟨0, Nat.zero_le _, rfl, HFL.out, Below.refl _ _⟩
    case round =>
      obtain ⟨k, hk, rfl, hf, hbw⟩ := hrel
      have HF := Lib.hid hf
      clear hf
      by_cases hlt : k < m
      · have hst := fitGo_drop cs vs k (by omega) (by omega)
        obtain ⟨g, o, rfl, h0, h1, h2⟩ := SegC.at_ (SegG.below ha hbw) hlt
        obtain ⟨g', o', rfl, h0', h1', h2'⟩ := (hb.below hbw).at_ hlt
        generalize cs[k]'(by rw [ha.1]; exact hlt) = x at *
        generalize vs[k]'(by rw [hb.1]; exact hlt) = v at *
        have HST := Lib.hid hst
        clear hst
        have hg := World.block_lt_of_cell? _ _ h0
        have hg' := World.block_lt_of_cell? _ _ h0'
        simp only at hg hg'
        go_wp2_with fail
        refine (right_any v _).mono ?_
        rintro e w1 ⟨rfl, hb1⟩
        obtain ⟨q0, q1, q2, _, hsz1⟩ := box3 hb1
        have hbw1 : Below w.heap.size w w1 := Below.next' (hbw.alloc hbw.size _) hb1 (by have := hbw.size; simp; omega)
        replace h0 := cell_below hb1 (cell_alloc _ h0)
        replace h1 := cell_below hb1 (cell_alloc _ h1)
        replace h2 := cell_below hb1 (cell_alloc _ h2)
        clear hb1 h0' h1' h2'
        by_cases hok : V.okB v = true
        · rw [hok]
          have hk0 : (0 : Int) ≤ (k : Int) := by omega
          have hk1 : (k : Int) < (m : Int) := by omega
          go_wp2
          generalize wr.heap.size = bv at *
          go_region_held3 (fun W' => W'.cell? ⟨bv, 0, none⟩ = some (.int .u8 v.k) ∧ W'.cell? ⟨bv, 1, none⟩ = some (.int .i64 v.n) ∧ W'.cell? ⟨bv, 2, none⟩ = some (.string v.s) ∧
              W'.cell? ⟨g, o + k * 3, none⟩ = some (.string x.s) ∧ W'.cell? ⟨g, o + k * 3 + 1, none⟩ = some (.int .u8 x.k) ∧ W'.cell? ⟨g, o + k * 3 + 2, none⟩ = some (.bool x.b))
            (first | exact ⟨q0, q1, q2, h0, h1, h2⟩ | exact ⟨cell_below hB q0, cell_below hB q1, cell_below hB q2, cell_below hB h0, cell_below hB h1, cell_below hB h2⟩)
            (first
              | (go_at_call 58; refine (allows_any x v _).mono ?_; rintro e w2 ⟨rfl, hb2⟩; have hB : Below w1.heap.size w1 w2 := Below.undrew hb2))
          rcases hal : allowB x v with _ | _
          · have e : fitL cs vs = 4 := by rw [HF.out, HST.out, if_pos hok, hal]; rfl
            have HE := Lib.hid e
            clear e
            go_wp2
            go_ret
            exact ⟨by rw [HE.out]; rfl, Below.next' hbw1 hB hbw1.size⟩
          · have e : fitL cs vs = fitGo (cs.drop (k + 1)) (vs.drop (k + 1)) := by rw [HF.out, HST.out, if_pos hok, hal]; rfl
            have HE := Lib.hid e
            clear e
            go_wp2
            go_roundw
            case rel => exact ⟨k + 1, hlt, by go_num, HE.out, Below.next' hbw1 hB hbw1.size⟩
            case measure => simp [intOf]; omega
        · have hok' : V.okB v = false := by simpa using hok
          rw [hok']
          have e : fitL cs vs = 2 := by rw [HF.out, HST.out, if_neg hok]
          have HE := Lib.hid e
          clear e
          go_wp2
          go_ret
          exact ⟨by rw [HE.out]; rfl, hbw1⟩
      · have e : fitL cs vs = 0 := by rw [HF.out, fitGo_end cs vs k (by omega)]
        have HE := Lib.hid e
        clear e
        go_wp2
        go_ret
        exact ⟨by rw [HE.out]; rfl, hbw⟩
  · have hne : ((m : Int) != (n : Int)) = true := by simp; omega
    have e : fitL cs vs = 1 := by unfold fitL; rw [if_neg (by omega)]
    have HE := Lib.hid e
    clear e
    go_enter Try.func41, Try.ntmps41
    go_wp2
    go_ret
    exact ⟨by rw [HE.out]; rfl, Below.refl _ _⟩

set_option maxHeartbeats 1000000 in
theorem tcheck_any (A B : Option Addr) (n m c d : Nat) (L : List Tbl) (vs : List V) (t : Nat) (w : World) (ha : SegT w A n L) (hb : SegV w B m vs) (hm : m ≤ 1000000) (_ : n ≤ 1000000) (ht : t < n) :
    Calls Try.prog 16 #[.slice A n c, .int .i64 (t : Int), .slice B m d] w fun e w' => e = .returned (.int .i64 (fitL (L[t]'(by rw [ha.len]; exact ht)).cols vs)) ∧ Below w.heap.size w w' := by
  obtain ⟨g, o, B', m', c', rfl, h0, h1, h2, hs, _, _⟩ := SegT.at_ ha ht
  have ht' : (t : Int) < (n : Int) := by omega
  go_enter Try.func16, Try.ntmps16
  go_wp2_with fail
  refine (isTable_any _ n c t true _ (by simp; omega)).mono ?_
  rintro e w' ⟨rfl, rfl⟩
  go_wp2_with fail
  refine (fit_any B' B m' m c' d _ vs _ hs hb hm).mono ?_
  rintro e w1 ⟨rfl, hb1⟩
  go_wp2
  go_ret
  exact ⟨rfl, hb1⟩

set_option maxHeartbeats 1000000 in
theorem tcheck_no (A B : Option Addr) (n m c d : Nat) (t : Int) (w : World) (ht : ¬ (0 ≤ t ∧ t < (n : Int))) :
    Calls Try.prog 16 #[.slice A n c, .int .i64 t, .slice B m d] w fun e w' => e = .returned (.int .i64 5) ∧ Below w.heap.size w w' := by
  go_enter Try.func16, Try.ntmps16
  go_wp2_with fail
  refine (isTable_any _ n c t false _ (decide_eq_false ht)).mono ?_
  rintro e w' ⟨rfl, rfl⟩
  go_wp2
  go_ret
  exact ⟨rfl, Below.refl _ _⟩

set_option maxHeartbeats 1000000 in
theorem tcheckKey_any (A B : Option Addr) (n m c d : Nat) (L : List Tbl) (vs : List V) (t : Nat) (w : World) (ha : SegT w A n L) (hb : SegV w B m vs) (hm : m ≤ 1000000) (_ : n ≤ 1000000) (ht : t < n)
    (hk0 : 0 ≤ (L[t]'(by rw [ha.len]; exact ht)).k) (hk1 : (L[t]'(by rw [ha.len]; exact ht)).k ≤ ((L[t]'(by rw [ha.len]; exact ht)).cols.length : Int)) :
    Calls Try.prog 17 #[.slice A n c, .int .i64 (t : Int), .slice B m d] w fun e w' => e = .returned (.int .i64 (fitL ((L[t]'(by rw [ha.len]; exact ht)).cols.take (L[t]'(by rw [ha.len]; exact ht)).k.toNat) vs)) ∧ Below w.heap.size w w' := by
  obtain ⟨g, o, B', m', c', rfl, h0, h1, h2, hs, hmc, hcm⟩ := SegT.at_ ha ht
  have ht' : (t : Int) < (n : Int) := by omega
  generalize L[t]'(by rw [ha.len]; exact ht) = x at *
  have hl := hs.1
  obtain ⟨k, hk⟩ : ∃ k : Nat, x.k = (k : Int) := ⟨x.k.toNat, by omega⟩
  rw [hk] at h2 hk0 hk1 ⊢
  have hkm : k ≤ m' := by omega
  have hkm' : (k : Int) ≤ (m' : Int) := by omega
  have hkc : (k : Int) ≤ (c' : Int) := by omega
  have hk2 := SegG.upto hs k hkm
  rw [Int.toNat_natCast]
  clear hk hl hk1
  go_enter Try.func17, Try.ntmps17
  go_wp2_with fail
  refine (isTable_any _ n c t true _ (by simp; omega)).mono ?_
  rintro e w' ⟨rfl, rfl⟩
  go_wp2_with fail
  refine (atMost_any (k : Int) m' _ hk0 hkm').mono ?_
  rintro e w' ⟨rfl, rfl⟩
  go_wp2_with fail
  refine (fit_any B' B k m c' d _ vs _ hk2 hb hm).mono ?_
  rintro e w1 ⟨rfl, hb1⟩
  go_wp2
  go_ret
  exact ⟨rfl, hb1⟩

set_option maxHeartbeats 1000000 in
theorem tcheckKey_no (A B : Option Addr) (n m c d : Nat) (t : Int) (w : World) (ht : ¬ (0 ≤ t ∧ t < (n : Int))) :
    Calls Try.prog 17 #[.slice A n c, .int .i64 t, .slice B m d] w fun e w' => e = .returned (.int .i64 5) ∧ Below w.heap.size w w' := by
  go_enter Try.func17, Try.ntmps17
  go_wp2_with fail
  refine (isTable_any _ n c t false _ (decide_eq_false ht)).mono ?_
  rintro e w' ⟨rfl, rfl⟩
  go_wp2
  go_ret
  exact ⟨rfl, Below.refl _ _⟩

end Go.Proofs.Ytcmagjeplofagaa
