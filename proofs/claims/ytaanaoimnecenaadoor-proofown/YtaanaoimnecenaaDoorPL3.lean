/-
  The walk of 'reads' and of the law ProofReads.
-/
import Derived.Test.YtaanaoimnecenaaDoorPL2
namespace Go.Proofs.YtaanaoimnecenaaDoor
open Go.RowKit

theorem pdec_lens (l : List UInt8) : (pdec l).1.side.length ≤ 256 ∧ (pdec l).1.row.length ≤ 4000 ∧ (pdec l).1.key.size ≤ 4000 ∧ (pdec l).1.k < 256 ∧ ∀ s ∈ (pdec l).1.side, s.size ≤ 32 := by
  have h0 : ∀ s, (psides s).1.length ≤ 256 := fun s => by
    unfold psides
    rw [psd_len]
    exact pnb_le _ _ _
  have hp : ∀ (s : Rst) k, ∀ x ∈ (psd s k).1, x.size ≤ 32 := fun s k => by
    induction k with
    | zero => intro x hx; cases hx
    | succ k ih =>
      intro x hx
      rw [psd, List.mem_append, List.mem_singleton] at hx
      rcases hx with hx | rfl
      · exact ih x hx
      · show (ptk (psd s k).2 32).1.toArray.size ≤ 32
        rw [List.size_toArray]
        exact ptk_len _ _
  have h1 : ∀ s, (ptx s).1.length ≤ 4000 := fun s => Nat.le_trans (ptk_len _ _) (pnb_le _ _ _)
  have h2 : ∀ s : Rst, (pnb s 1 2).1 ≤ 2 := fun s => pnb_le _ _ _
  have hs : ∀ s, ∀ x ∈ (psides s).1, x.size ≤ 32 := fun s => hp _ _
  have h3 : (ppf (l, 0)).1.side.length ≤ 256 ∧ (ppf (l, 0)).1.row.length ≤ 4000 ∧ (ppf (l, 0)).1.key.size ≤ 4000 ∧ (ppf (l, 0)).1.k < 256 ∧ ∀ s ∈ (ppf (l, 0)).1.side, s.size ≤ 32 := by
    have q0 := h0 (l, 0)
    have q1 := hs (l, 0)
    have q2 := h1 (pnb (psides (l, 0)).2 1 2).2
    have q3 := h1 (ptx (pnb (psides (l, 0)).2 1 2).2).2
    have q4 := h2 (psides (l, 0)).2
    unfold ppf
    generalize ptx (ptx (pnb (psides (l, 0)).2 1 2).2).2 = e at *
    generalize ptx (pnb (psides (l, 0)).2 1 2).2 = c at *
    generalize pnb (psides (l, 0)).2 1 2 = b at *
    generalize psides (l, 0) = a at *
    have q5 : (⟨c.1.toArray⟩ : ByteArray).size ≤ 4000 := by
      show c.1.toArray.size ≤ 4000
      rw [List.size_toArray]
      exact q2
    have q6 : (⟨#[]⟩ : ByteArray).size ≤ 4000 := Nat.zero_le _
    clear h0 h1 h2 hs hp
    split
    · exact ⟨q0, q3, q5, by show 2 < 256; omega, q1⟩
    · split
      · exact ⟨q0, q2, q6, by show 1 < 256; omega, q1⟩
      · exact ⟨q0, Nat.zero_le _, q6, by show b.1 < 256; omega, q1⟩
  clear h0 h1 h2 hs hp
  unfold pdec
  generalize ppf (l, 0) = X at *
  generalize pend X.2 = Y
  by_cases hy : Y.2 = 0
  · rw [if_pos hy]
    exact h3
  · rw [if_neg hy]
    exact ⟨Nat.zero_le _, Nat.zero_le _, Nat.zero_le _, by show 0 < 256; omega, fun s hs => by cases hs⟩

set_option maxRecDepth 4000 in
set_option maxHeartbeats 8000000 in
theorem reads_any (A : Option Addr) (n c : Nat) (l : List UInt8) (w : World) (ha : Seg w A n l) (hnc : n ≤ c) (hcm : c ≤ maxLen) (hn : n ≤ 1000000) :
    Calls Tryd.prog 50 #[.slice A n c] w fun e w' => e = .returned (.bool true) ∧ Below w.heap.size w w' := by
  have hd := pdecode_any A n c l w ha hnc hcm hn ha.lt
  have hr := fun W (h : Below w.heap.size w W) => rpdecode_any A n c l W (ha.below h) hnc hcm hn
  have hlen := pdec_lens l
  generalize pdec l = Z at *
  obtain ⟨p, x⟩ := Z
  dsimp only at *
  have HR := Lib.hid hr
  have HL := Lib.hid hlen
  clear hr ha hlen
  go_enter Tryd.func50, Tryd.ntmps50
  go_wp2_with fail
  refine hd.mono ?_
  clear hd
  rintro e w1 ⟨v, rfl, hv, hb1⟩
  have hat := hv.at_
  obtain ⟨A1, c1, B1, d1, rfl, f1, f2, f3, f4, f5, f6⟩ := hat
  have hat : PfAt w1 (.agg #[.slice A1 p.side.length c1, .int .u8 (p.k : Int), .string p.key, .slice B1 p.row.length d1]) p := ⟨A1, c1, B1, d1, rfl, f1, f2, f3, f4, f5, f6⟩
  have hal := (Below.refl w1.heap.size w1).alloc (Nat.le_refl _) (.cells #[.slice A1 p.side.length c1, .int .u8 (p.k : Int), .string p.key, .slice B1 p.row.length d1] 65)
  have hbw2 := Below.next' hb1 hal hb1.size
  have hat2 := hat.below hal
  have hq2 := Bx.new w1 (.slice A1 p.side.length c1) (.int .u8 (p.k : Int)) (.string p.key) (.slice B1 p.row.length d1) 65
  have HQ := Lib.hid (And.intro hbw2 (And.intro hat2 hq2))
  clear hv hat f1 f2 f3 f4 f5 f6 hal hbw2 hat2 hq2 hb1
  go_wp2_with fail
  obtain ⟨hbw2, hat2, hq2⟩ := HQ.out
  clear HQ
  generalize w1.alloc (.cells #[.slice A1 p.side.length c1, .int .u8 (p.k : Int), .string p.key, .slice B1 p.row.length d1] 65) = w2 at *
  generalize w1.heap.size = b1 at *
  refine (HR.out _ hbw2).mono ?_
  rintro e w3 ⟨u, rfl, hu, hb3⟩
  have hau := hu.at_
  obtain ⟨A2, c2, B2, d2, rfl, f1, f2, f3, f4, f5, f6⟩ := hau
  have hau : PfAt w3 (.agg #[.slice A2 p.side.length c2, .int .u8 (p.k : Int), .string p.key, .slice B2 p.row.length d2]) p := ⟨A2, c2, B2, d2, rfl, f1, f2, f3, f4, f5, f6⟩
  have hq3 := hq2.below hb3
  have hat3 := hat2.below hb3
  have hbw3 := Below.next' hbw2 hb3 hbw2.size
  have hal := (Below.refl w3.heap.size w3).alloc (Nat.le_refl _) (.cells #[.slice A2 p.side.length c2, .int .u8 (p.k : Int), .string p.key, .slice B2 p.row.length d2] 67)
  have hbw4 := Below.next' hbw3 hal hbw3.size
  have hat4 := hat3.below hal
  have hau4 := hau.below hal
  have HQ := Lib.hid (And.intro hbw4 (And.intro hat4 hau4))
  have hblt : b1 < w3.heap.size := hq3.lt
  clear hu hau f1 f2 f3 f4 f5 f6 hal hbw4 hat4 hau4 hq2 hat2 hbw2 hb3 hat3 HR
  obtain ⟨q0, q1, q2, q3, qf⟩ := hq3
  clear qf
  go_wp2_with fail
  obtain ⟨hbw4, hat4, hau4⟩ := HQ.out
  refine (like_any _ _ p p true _ hat4 hau4 (by have := HL.out.1; omega) (by have := HL.out.2.1; omega) (by simp)).mono ?_
  rintro e w5 ⟨rfl, hb5⟩
  go_wp2
  go_ret
  exact ⟨rfl, Below.next' hbw4 hb5 hbw4.size⟩

set_option maxRecDepth 4000 in
set_option maxHeartbeats 8000000 in
theorem proofReads_core (A : Option Addr) (n c : Nat) (l : List UInt8) (w : World) (ha : Seg w A n l) (hnc : n ≤ c) (hcm : c ≤ maxLen) (h : n ≤ 200) (ht : Tab w) :
    Calls Tryd.prog 10 #[.slice A n c] w fun e w' => e = .returned (.bool true) ∧ Below w.heap.size w w' := by
  have d0 : decide ((200 : Int) < (n : Int)) = false := decide_eq_false (by omega)
  have HLN := Lib.hid ha.1
  have hl0 : ([0, 0] ++ l).length = 2 + n := by rw [List.length_append, ha.1]; rfl
  have hl1 : ([0, 1] ++ l).length = 2 + n := by rw [List.length_append, ha.1]; rfl
  have HL0 := Lib.hid hl0
  have HL1 := Lib.hid hl1
  clear hl0 hl1
  go_enter Tryd.func10, Tryd.ntmps10
  go_wp2_with fail
  refine (bare_any _ ht).mono ?_
  rintro e w1 ⟨rfl, hb1⟩
  go_wp2_with fail
  refine (reads_any A n c l _ (ha.below hb1) hnc hcm (by omega)).mono ?_
  rintro e w2 ⟨rfl, hb2⟩
  have hbw2 := Below.next' hb1 hb2 hb1.size
  have hx2 := hbw2.alloc hbw2.size (.cells #[.int .u8 0, .int .u8 0] 5)
  clear hb1 hb2
  go_wp2_with fail
  refine (join_any _ A 2 n _ c [0, 0] l _ (Seg.two w2 0 0 5 0 0 rfl rfl) (ha.below hx2) (by omega)).mono ?_
  rintro e w3 ⟨v3, rfl, ho3, hb3⟩
  have hbw3 := Below.next' hx2 hb3 hx2.size
  obtain ⟨A3, c3, rfl, hs3, hc3, hm3⟩ := ho3.forms
  rw [HL0.out] at hs3 hc3 ⊢
  clear ho3 hb3 hx2 hbw2
  go_wp2_with fail
  refine (reads_any A3 (2 + n) c3 _ _ hs3 hc3 hm3 (by omega)).mono ?_
  rintro e w4 ⟨rfl, hb4⟩
  have hbw4 := Below.next' hbw3 hb4 hbw3.size
  have hx4 := hbw4.alloc hbw4.size (.cells #[.int .u8 0, .int .u8 1] 5)
  clear hbw3 hb4 hs3
  go_wp2_with fail
  refine (join_any _ A 2 n _ c [0, 1] l _ (Seg.two w4 0 1 5 0 1 rfl rfl) (ha.below hx4) (by omega)).mono ?_
  rintro e w5 ⟨v5, rfl, ho5, hb5⟩
  have hbw5 := Below.next' hx4 hb5 hx4.size
  obtain ⟨A5, c5, rfl, hs5, hc5, hm5⟩ := ho5.forms
  rw [HL1.out] at hs5 hc5 ⊢
  clear ho5 hb5 hx4 hbw4
  go_wp2_with fail
  refine (reads_any A5 (2 + n) c5 _ _ hs5 hc5 hm5 (by omega)).mono ?_
  rintro e w6 ⟨rfl, hb6⟩
  go_wp2
  go_ret
  exact ⟨rfl, Below.next' hbw5 hb6 hbw5.size⟩

theorem proofReads_walk (A : Option Addr) (n c : Nat) (l : List UInt8) (w : World) (ha : Seg w A n l) (hnc : n ≤ c) (hcm : c ≤ maxLen) (ht : Tab w) :
    Calls Tryd.prog 10 #[.slice A n c] w fun e w' => e = .returned (.bool true) ∧ Below w.heap.size w w' := by
  by_cases h : n ≤ 200
  · exact proofReads_core A n c l w ha hnc hcm h ht
  · have d0 : decide ((200 : Int) < (n : Int)) = true := decide_eq_true (by omega)
    go_enter Tryd.func10, Tryd.ntmps10
    go_wp2_with fail
    refine (bare_any _ ht).mono ?_
    rintro e w1 ⟨rfl, hb1⟩
    go_wp2
    go_ret
    exact ⟨rfl, hb1⟩

end Go.Proofs.YtaanaoimnecenaaDoor
