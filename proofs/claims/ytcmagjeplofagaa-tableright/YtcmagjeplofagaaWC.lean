/-
  The walks of the document's Compare: of two values, of two lists.
-/
import Derived.Test.YtcmagjeplofagaaPureO
import Derived.Test.YtcmagjeplofagaaWB
namespace Go.Proofs.Ytcmagjeplofagaa
open Go.RowKit
open Go.Op (bytesLess)

theorem run_gtrS (a b : ByteArray) (w : World) : (binOp .gtr 9 (.string a) (.string b)).run Try.prog w = .ok (.bool (bytesLess b.toList a.toList)) w := by
  have e : (!bytesLess a.toList b.toList && !(a.toList == b.toList)) = bytesLess b.toList a.toList := by
    rcases bl_tri a.toList b.toList with ⟨h1, h2, h3⟩ | ⟨h1, h2, h3⟩ | ⟨h1, h2, h3⟩
    · rw [h1, h2]; rfl
    · rw [h1, h2, beq_eq_false_iff_ne.2 h3]; rfl
    · rw [h1, h2, h3]; simp
  rw [← e]
  simp [go_sem, binOp, Op.stringOp]

theorem cmpV_1 {a b : V} (h : (a.k != b.k) = true) (h1 : a.k < b.k) : cmpV a b = -1 := by
  unfold cmpV
  rw [if_pos (by simpa using h), if_pos h1]
theorem cmpV_2 {a b : V} (h : (a.k != b.k) = true) (h1 : b.k ≤ a.k) : cmpV a b = 1 := by
  unfold cmpV
  rw [if_pos (by simpa using h), if_neg (by omega)]
theorem cmpV_3 {a b : V} (h : (a.k != b.k) = false) (h1 : a.n < b.n ∨ bytesLess a.s.toList b.s.toList = true) : cmpV a b = -1 := by
  unfold cmpV
  rw [if_neg (by simpa using h), if_pos h1]
theorem cmpV_4 {a b : V} (h : (a.k != b.k) = false) (h1 : b.n ≤ a.n ∧ bytesLess a.s.toList b.s.toList = false) (h2 : b.n < a.n ∨ (!a.s.toList == b.s.toList) = true) : cmpV a b = 1 := by
  unfold cmpV
  have h3 : ¬ (a.n < b.n ∨ bytesLess a.s.toList b.s.toList = true) := by
    rintro (h' | h')
    · omega
    · rw [h1.2] at h'; cases h'
  rw [if_neg (by simpa using h), if_neg h3, if_pos]
  rcases h2 with h2 | h2
  · exact .inl h2
  · rcases bl_tri a.s.toList b.s.toList with ⟨e, _, _⟩ | ⟨_, e, _⟩ | ⟨_, _, e⟩
    · rw [h1.2] at e; cases e
    · exact .inr e
    · rw [e] at h2; simp at h2
theorem cmpV_5 {a b : V} (h : (a.k != b.k) = false) (h1 : b.n ≤ a.n ∧ bytesLess a.s.toList b.s.toList = false) (h2 : a.n ≤ b.n ∧ (!a.s.toList == b.s.toList) = false) : cmpV a b = 0 := by
  unfold cmpV
  have e : a.s.toList = b.s.toList := by
    have := h2.2
    simpa using this
  rw [if_neg (by simpa using h), if_neg, if_neg]
  · rw [e, bl_irr]
    rintro (h' | h')
    · omega
    · cases h'
  · rw [e, bl_irr]
    rintro (h' | h')
    · omega
    · cases h'

set_option maxHeartbeats 1000000 in
theorem rcompare_any (a b : V) (w : World) :
    Calls Try.prog 54 #[.agg #[.int .u8 a.k, .int .i64 a.n, .string a.s], .agg #[.int .u8 b.k, .int .i64 b.n, .string b.s]] w fun e w' => e = .returned (.int .i64 (cmpV a b)) ∧ Below w.heap.size w w' := by
  have kg := run_gtrS a.s b.s
  go_enter Try.func54, Try.ntmps54
  go_wp2
  all_goals
    go_ret
    refine ⟨?_, ((Below.refl _ _).alloc (Nat.le_refl _) _).alloc (by simp) _⟩
    first
      | exact congrArg (fun x => Ending.returned (.int .i64 x)) (cmpV_1 ‹_› ‹_›).symm
      | exact congrArg (fun x => Ending.returned (.int .i64 x)) (cmpV_2 ‹_› ‹_›).symm
      | exact congrArg (fun x => Ending.returned (.int .i64 x)) (cmpV_3 ‹_› ‹_›).symm
      | exact congrArg (fun x => Ending.returned (.int .i64 x)) (cmpV_3 ‹_› (.inl ‹_›)).symm
      | exact congrArg (fun x => Ending.returned (.int .i64 x)) (cmpV_4 ‹_› ‹_› ‹_›).symm
      | exact congrArg (fun x => Ending.returned (.int .i64 x)) (cmpV_4 ‹_› ‹_› (.inl ‹_›)).symm
      | exact congrArg (fun x => Ending.returned (.int .i64 x)) (cmpV_5 ‹_› ‹_› ‹_›).symm

set_option maxHeartbeats 2000000 in
theorem rcompareL_any (A B : Option Addr) (n m c d : Nat) (l r : List V) (w : World) (ha : SegV w A n l) (hb : SegV w B m r) (hn : n ≤ 1000000) (_ : m ≤ 1000000) :
    Calls Try.prog 35 #[.slice A n c, .slice B m d] w fun e w' => e = .returned (.int .i64 (cmpL l r)) ∧ Below w.heap.size w w' := by
  have hl := ha.1
  have hr := hb.1
  go_enter Try.func35, Try.ntmps35
  go_wp2
  go_loopw [5, 6] (fun i _ w' => ∃ k : Nat, k ≤ n ∧ k ≤ m ∧ i = .int .i64 k ∧ cmpL l r = cmpL (l.drop k) (r.drop k) ∧ Below w.heap.size w w') (fun i _ _ => n - (intOf i).toNat)
  case atStart => exact ⟨0, Nat.zero_le _, Nat.zero_le _, rfl, rfl, Below.refl _ _⟩
  case round =>
    obtain ⟨k, hk, hk', rfl, hc, hbw⟩ := hrel
    have hwr := hbw.size
    by_cases hkn : k < n
    · have hdl : l.drop k = l[k]'(by omega) :: l.drop (k + 1) := List.drop_eq_getElem_cons (by omega)
      by_cases hkm : k < m
      · have hdr : r.drop k = r[k]'(by omega) :: r.drop (k + 1) := List.drop_eq_getElem_cons (by omega)
        rw [hdl, hdr] at hc
        obtain ⟨g, o, rfl, x0, x1, x2⟩ := (ha.below hbw).at_ hkn
        obtain ⟨g', o', rfl, y0, y1, y2⟩ := (hb.below hbw).at_ hkm
        clear hdl hdr
        generalize l[k]'(by omega) = x at *
        generalize r[k]'(by omega) = y at *
        obtain ⟨z, hz⟩ : ∃ z, cmpV x y = z := ⟨_, rfl⟩
        have hcz : cmpL l r = if z ≠ 0 then z else cmpL (l.drop (k + 1)) (r.drop (k + 1)) := by rw [hc, ← hz]; rfl
        have HZ := Lib.hid hz
        have HC := Lib.hid hcz
        clear hz hcz hc
        go_wp2
        go_region_held3 (fun W' => W'.cell? ⟨g, o + k * 3, none⟩ = some (.int .u8 x.k) ∧ W'.cell? ⟨g, o + k * 3 + 1, none⟩ = some (.int .i64 x.n) ∧ W'.cell? ⟨g, o + k * 3 + 2, none⟩ = some (.string x.s) ∧ W'.cell? ⟨g', o' + k * 3, none⟩ = some (.int .u8 y.k) ∧ W'.cell? ⟨g', o' + k * 3 + 1, none⟩ = some (.int .i64 y.n) ∧ W'.cell? ⟨g', o' + k * 3 + 2, none⟩ = some (.string y.s))
          (first | exact ⟨x0, x1, x2, y0, y1, y2⟩ | exact ⟨cell_below hB x0, cell_below hB x1, cell_below hB x2, cell_below hB y0, cell_below hB y1, cell_below hB y2⟩ | go_keep)
          (first
            | (go_at_call 54; refine (rcompare_any x y _).mono ?_; rintro e w2 ⟨rfl, hb2⟩; have hB : Below wr.heap.size wr w2 := Below.undrew hb2; have hbw2 : Below w.heap.size w w2 := Below.next' hbw hB hwr))
        rw [HZ.out]
        by_cases hz : z = 0
        · have hcz : cmpL l r = cmpL (l.drop (k + 1)) (r.drop (k + 1)) := by rw [HC.out, if_neg (by simpa using hz)]
          have HCZ := Lib.hid hcz
          subst hz
          clear hcz
          go_wp2
          go_roundw
          case rel => exact ⟨k + 1, hkn, hkm, by go_num, HCZ.out, hbw2⟩
          case measure => simp [intOf]; omega
        · have hcz : cmpL l r = z := by rw [HC.out, if_pos hz]
          have HCZ := Lib.hid hcz
          have hz' : (z != 0) = true := by simpa using hz
          clear hcz hz
          go_wp2
          go_ret
          exact ⟨congrArg (fun x => Ending.returned (.int .i64 x)) HCZ.out.symm, hbw2⟩
      · have h1 : ¬ (k : Int) < (m : Int) := by omega
        have h2 : ¬ (n : Int) < (m : Int) := by omega
        have h3 : (m : Int) < (n : Int) := by omega
        have hdr : r.drop k = [] := List.drop_of_length_le (by omega)
        rw [hdl, hdr] at hc
        have HC := Lib.hid hc
        clear hc hdl hdr
        go_wp2
        go_ret
        exact ⟨congrArg (fun x => Ending.returned (.int .i64 x)) HC.out.symm, hbw⟩
    · have hdl : l.drop k = [] := List.drop_of_length_le (by omega)
      rw [hdl] at hc
      by_cases hnm : n < m
      · have hdr : r.drop k = r[k]'(by omega) :: r.drop (k + 1) := List.drop_eq_getElem_cons (by omega)
        rw [hdr] at hc
        have HC := Lib.hid hc
        clear hc hdl hdr
        go_wp2
        go_ret
        exact ⟨congrArg (fun x => Ending.returned (.int .i64 x)) HC.out.symm, hbw⟩
      · have hdr : r.drop k = [] := List.drop_of_length_le (by omega)
        have h2 : ¬ (n : Int) < (m : Int) := by omega
        have h3 : ¬ (m : Int) < (n : Int) := by omega
        rw [hdr] at hc
        have HC := Lib.hid hc
        clear hc hdl hdr
        go_wp2
        go_ret
        exact ⟨congrArg (fun x => Ending.returned (.int .i64 x)) HC.out.symm, hbw⟩

end Go.Proofs.Ytcmagjeplofagaa
