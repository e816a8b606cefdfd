/-
  The walks of the document's Check and CheckKey.
-/
import Derived.Test.YtcmagjeplofagaaWT6
namespace Go.Proofs.Ytcmagjeplofagaa
open Go.RowKit

theorem allow_same {c : Col} {v : V} (h : v.k = c.k) (hc : c.k = 1 ∨ c.k = 2) : allowB c v = true := by
  unfold allowB
  rw [if_neg (by omega), decide_eq_true h]
theorem allow_null {c : Col} {v : V} (h : v.k = 0) : allowB c v = c.b := by
  unfold allowB
  rw [if_pos h]
theorem allow_other {c : Col} {v : V} (h : v.k ≠ c.k) (h0 : v.k ≠ 0) : allowB c v = false := by
  unfold allowB
  rw [if_neg h0, decide_eq_false h]

set_option maxHeartbeats 1000000 in
theorem rcheck_any (s : ByteArray) (K : Int) (A B : Option Addr) (n m c d : Nat) (cs : List Col) (vs : List V) (q : Nat) (w : World) (ha : SegC w A n cs) (hb : SegV w B m vs) (hm : m ≤ 1000000) (hq : q ≤ n) (hkk : ∀ x ∈ cs, x.k = 1 ∨ x.k = 2) :
    Calls Try.prog 43 #[.agg #[.string s, .slice A n c, .int .i64 K], .int .i64 (q : Int), .slice B m d] w fun e w' => e = .returned (.int .i64 (fitL (cs.take q) vs)) ∧ Below w.heap.size w w' := by
  have hla := ha.1
  have hlb := hb.1
  have hlq : (cs.take q).length = q := by rw [List.length_take]; omega
  by_cases hnm : m = q
  · subst hnm
    have hne : ((m : Int) != (m : Int)) = false := by simp
    have hfl : fitL (cs.take m) vs = fitGo ((cs.take m).drop 0) (vs.drop 0) := by unfold fitL; rw [if_pos (by omega)]; rfl
    have HFL := Lib.hid hfl
    clear hfl
    go_enter Try.func43, Try.ntmps43
    go_wp2
    go_loopw [7] (fun i w' => ∃ k : Nat, k ≤ m ∧ i = .int .i64 k ∧ fitL (cs.take m) vs = fitGo ((cs.take m).drop k) (vs.drop k) ∧ w'.cell? ⟨w.heap.size, 1, none⟩ = some (.slice A n c) ∧ Below w.heap.size w w') (fun i _ => m - (intOf i).toNat)
    case atStart => exact ⟨0, Nat.zero_le _, rfl, HFL.out, by simp, (Below.refl _ _).alloc (Nat.le_refl _) _⟩
    case round =>
      obtain ⟨k, hk, rfl, hf, hbox, hbw⟩ := hrel
      have HF := Lib.hid hf
      clear hf
      by_cases hlt : k < m
      · have hst := fitGo_drop (cs.take m) vs k (by omega) (by omega)
        obtain ⟨g, o, rfl, h0, h1, h2⟩ := SegC.at_ (SegG.below ha hbw) (k := k) (by omega)
        obtain ⟨g', o', rfl, h0', h1', h2'⟩ := (hb.below hbw).at_ hlt
        have hx := hkk (cs[k]'(by rw [ha.1]; omega)) (List.getElem_mem _)
        have het : (cs.take m)[k]'(by omega) = cs[k]'(by rw [ha.1]; omega) := by simp
        rw [het] at hst
        clear het
        generalize cs[k]'(by rw [ha.1]; omega) = x at *
        generalize vs[k]'(by rw [hb.1]; exact hlt) = v at *
        have HST := Lib.hid hst
        clear hst
        go_wp2_with fail
        refine (rright_any v _).mono ?_
        rintro e w1 ⟨rfl, hb1⟩
        have hbw1 : Below w.heap.size w w1 := Below.next' hbw hb1 hbw.size
        replace h0 := cell_below hb1 h0
        replace h1 := cell_below hb1 h1
        replace h2 := cell_below hb1 h2
        replace h0' := cell_below hb1 h0'
        replace hbox := cell_below hb1 hbox
        clear hb1 h1' h2' 
        by_cases hok : V.okB v = true
        · rw [hok]
          have hk0 : (0 : Int) ≤ (k : Int) := by omega
          have hk1 : (k : Int) < (m : Int) := by omega
          have hk2 : (k : Int) < (n : Int) := by omega
          by_cases hvk : v.k = x.k
          · have hb1 : (v.k != x.k) = false := by simp [hvk]
            have hal := allow_same hvk hx
            have e : fitL (cs.take m) vs = fitGo ((cs.take m).drop (k + 1)) (vs.drop (k + 1)) := by rw [HF.out, HST.out, if_pos hok, hal]; rfl
            have HE := Lib.hid e
            clear e hvk hx hal
            go_wp2
            go_quiet (fail)
            go_wp2
            go_roundw
            case rel => exact ⟨k + 1, hlt, by go_num, HE.out, hbox, below_drewN hbw1 _⟩
            case measure => simp [intOf]; omega
          · have hb1 : (v.k != x.k) = true := by simp [hvk]
            by_cases hv0 : v.k = 0
            · have hb2 : (v.k == 0) = true := by simp [hv0]
              have hal := allow_null (c := x) hv0
              rcases hxb : x.b with _ | _
              · have e : fitL (cs.take m) vs = 4 := by rw [HF.out, HST.out, if_pos hok, hal, hxb]; rfl
                rw [hxb] at h2
                have HE := Lib.hid e
                clear e hvk hx hal hv0
                go_wp2
                go_quiet (fail)
                go_wp2
                go_ret
                exact ⟨by rw [HE.out]; rfl, below_drewN hbw1 _⟩
              · have e : fitL (cs.take m) vs = fitGo ((cs.take m).drop (k + 1)) (vs.drop (k + 1)) := by rw [HF.out, HST.out, if_pos hok, hal, hxb]; rfl
                rw [hxb] at h2
                have HE := Lib.hid e
                clear e hvk hx hal hv0
                go_wp2
                go_quiet (fail)
                go_wp2
                go_roundw
                case rel => exact ⟨k + 1, hlt, by go_num, HE.out, hbox, below_drewN hbw1 _⟩
                case measure => simp [intOf]; omega
            · have hb2 : (v.k == 0) = false := by simp [hv0]
              have hal := allow_other hvk hv0
              have e : fitL (cs.take m) vs = 4 := by rw [HF.out, HST.out, if_pos hok, hal]; rfl
              have HE := Lib.hid e
              clear e hvk hx hal hv0
              go_wp2
              go_quiet (fail)
              go_wp2
              go_ret
              exact ⟨by rw [HE.out]; rfl, below_drewN hbw1 _⟩
        · have hok' : V.okB v = false := by simpa using hok
          rw [hok']
          have e : fitL (cs.take m) vs = 2 := by rw [HF.out, HST.out, if_neg hok]
          have HE := Lib.hid e
          clear e
          go_wp2
          go_ret
          exact ⟨by rw [HE.out]; rfl, hbw1⟩
      · have e : fitL (cs.take m) vs = 0 := by rw [HF.out, fitGo_end (cs.take m) vs k (by omega)]
        have HE := Lib.hid e
        clear e
        go_wp2
        go_ret
        exact ⟨by rw [HE.out]; rfl, hbw⟩
  · have hne : ((m : Int) != (q : Int)) = true := by simp; omega
    have e : fitL (cs.take q) vs = 1 := by unfold fitL; rw [if_neg (by omega)]
    have HE := Lib.hid e
    clear e
    go_enter Try.func43, Try.ntmps43
    go_wp2
    go_ret
    exact ⟨by rw [HE.out]; rfl, (Below.refl _ _).alloc (Nat.le_refl _) _⟩

set_option maxHeartbeats 1000000 in
theorem rCheck_any (A B : Option Addr) (n m c d : Nat) (L : List Tbl) (vs : List V) (t : Nat) (w : World) (ha : SegT w A n L) (hb : SegV w B m vs) (hm : m ≤ 1000000) (_ : n ≤ 1000000) (ht : t < n)
    (hkk : ∀ x ∈ (L[t]'(by rw [ha.len]; exact ht)).cols, x.k = 1 ∨ x.k = 2) :
    Calls Try.prog 19 #[.slice A n c, .int .i64 (t : Int), .slice B m d] w fun e w' => e = .returned (.int .i64 (fitL (L[t]'(by rw [ha.len]; exact ht)).cols vs)) ∧ Below w.heap.size w w' := by
  obtain ⟨g, o, B', m', c', rfl, h0, h1, h2, hs, hmc, hcm⟩ := SegT.at_ ha ht
  have ht' : (t : Int) < (n : Int) := by omega
  have ht0 : (0 : Int) ≤ (t : Int) := by omega
  generalize L[t]'(by rw [ha.len]; exact ht) = x at *
  have hlx : x.cols.take m' = x.cols := List.take_of_length_le (by rw [hs.1]; omega)
  have HLX := Lib.hid hlx
  clear hlx
  go_enter Try.func19, Try.ntmps19
  go_wp2
  go_region_held3 (fun W' => W'.cell? ⟨g, o + t * 3, none⟩ = some (.string x.s) ∧ W'.cell? ⟨g, o + t * 3 + 1, none⟩ = some (.slice B' m' c') ∧ W'.cell? ⟨g, o + t * 3 + 2, none⟩ = some (.int .i64 x.k))
    (first | exact ⟨h0, h1, h2⟩ | exact ⟨cell_below hB h0, cell_below hB h1, cell_below hB h2⟩)
    (first
      | (go_at_call 43; refine (rcheck_any x.s x.k B' B m' m c' d x.cols vs m' _ (SegG.drew hs) (SegV.drewN hb 1) hm (Nat.le_refl _) hkk).mono ?_; rintro e w2 ⟨rfl, hb2⟩; have hB : Below w.heap.size w w2 := Below.undrew hb2))
  go_wp2
  go_ret
  exact ⟨by rw [HLX.out]; rfl, hB⟩

set_option maxHeartbeats 1000000 in
theorem rCheckKey_any (A B : Option Addr) (n m c d : Nat) (L : List Tbl) (vs : List V) (t : Nat) (w : World) (ha : SegT w A n L) (hb : SegV w B m vs) (hm : m ≤ 1000000) (_ : n ≤ 1000000) (ht : t < n)
    (hk0 : 0 ≤ (L[t]'(by rw [ha.len]; exact ht)).k) (hk1 : (L[t]'(by rw [ha.len]; exact ht)).k ≤ ((L[t]'(by rw [ha.len]; exact ht)).cols.length : Int)) (hkk : ∀ x ∈ (L[t]'(by rw [ha.len]; exact ht)).cols, x.k = 1 ∨ x.k = 2) :
    Calls Try.prog 20 #[.slice A n c, .int .i64 (t : Int), .slice B m d] w fun e w' => e = .returned (.int .i64 (fitL ((L[t]'(by rw [ha.len]; exact ht)).cols.take (L[t]'(by rw [ha.len]; exact ht)).k.toNat) vs)) ∧ Below w.heap.size w w' := by
  obtain ⟨g, o, B', m', c', rfl, h0, h1, h2, hs, hmc, hcm⟩ := SegT.at_ ha ht
  have ht' : (t : Int) < (n : Int) := by omega
  have ht0 : (0 : Int) ≤ (t : Int) := by omega
  generalize L[t]'(by rw [ha.len]; exact ht) = x at *
  have hl := hs.1
  obtain ⟨k, hk⟩ : ∃ k : Nat, x.k = (k : Int) := ⟨x.k.toNat, by omega⟩
  rw [hk] at h2 hk0 hk1 ⊢
  have hkm : k ≤ m' := by omega
  rw [Int.toNat_natCast]
  clear hk hl hk1
  go_enter Try.func20, Try.ntmps20
  go_wp2
  go_region_held3 (fun W' => W'.cell? ⟨g, o + t * 3, none⟩ = some (.string x.s) ∧ W'.cell? ⟨g, o + t * 3 + 1, none⟩ = some (.slice B' m' c') ∧ W'.cell? ⟨g, o + t * 3 + 2, none⟩ = some (.int .i64 (k : Int)))
    (first | exact ⟨h0, h1, h2⟩ | exact ⟨cell_below hB h0, cell_below hB h1, cell_below hB h2⟩)
    (first
      | (go_at_call 43; refine (rcheck_any x.s (k : Int) B' B m' m c' d x.cols vs k _ (SegG.drew hs) (SegV.drewN hb 1) hm hkm hkk).mono ?_; rintro e w2 ⟨rfl, hb2⟩; have hB : Below w.heap.size w w2 := Below.undrew hb2))
  go_wp2
  go_ret
  exact ⟨rfl, hB⟩

set_option maxHeartbeats 1000000 in
theorem rCheck_no (A B : Option Addr) (n m c d : Nat) (t : Int) (w : World) (ht : ¬ (0 ≤ t ∧ t < (n : Int))) :
    Calls Try.prog 19 #[.slice A n c, .int .i64 t, .slice B m d] w fun e w' => e = .returned (.int .i64 5) ∧ Below w.heap.size w w' := by
  by_cases h : t < 0
  · go_enter Try.func19, Try.ntmps19
    go_wp2
    go_ret
    exact ⟨rfl, Below.refl _ _⟩
  · have h' : (n : Int) ≤ t := by omega
    go_enter Try.func19, Try.ntmps19
    go_wp2
    go_ret
    exact ⟨rfl, Below.refl _ _⟩

set_option maxHeartbeats 1000000 in
theorem rCheckKey_no (A B : Option Addr) (n m c d : Nat) (t : Int) (w : World) (ht : ¬ (0 ≤ t ∧ t < (n : Int))) :
    Calls Try.prog 20 #[.slice A n c, .int .i64 t, .slice B m d] w fun e w' => e = .returned (.int .i64 5) ∧ Below w.heap.size w w' := by
  by_cases h : t < 0
  · go_enter Try.func20, Try.ntmps20
    go_wp2
    go_ret
    exact ⟨rfl, Below.refl _ _⟩
  · have h' : (n : Int) ≤ t := by omega
    go_enter Try.func20, Try.ntmps20
    go_wp2
    go_ret
    exact ⟨rfl, Below.refl _ _⟩

end Go.Proofs.Ytcmagjeplofagaa
