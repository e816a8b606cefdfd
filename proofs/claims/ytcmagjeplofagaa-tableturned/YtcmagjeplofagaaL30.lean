/-
  The walk of the law TableTurned.
-/
import Derived.Test.YtcmagjeplofagaaL29
import Derived.Test.YtcmagjeplofagaaMemS
namespace Go.Proofs.Ytcmagjeplofagaa
open Go.RowKit

set_option maxHeartbeats 2000000 in
theorem tableTurned_walk (A : Option Addr) (n c : Nat) (l : List V) (k b : Int) (cut : Bool) (B : Option Addr) (m d : Nat) (r : List UInt8) (w : World) (ha : SegV w A n l) (_ : n ≤ c) (_ : c ≤ maxLen) (hwl : ∀ x ∈ l, x.Wide) (hk : (Lit.int .u16 k).wf = true) (hb : (Lit.int .u8 b).wf = true) (hB : Seg w B m r) (_ : m ≤ d) (_ : d ≤ maxLen) :
    Calls Try.prog 7 #[.slice A n c, .int .u16 k, .int .u8 b, .bool cut, .slice B m d] w fun e w' => e = .returned (.bool true) ∧ Below w.heap.size w w' := by
  have hk0 := (bounds_u16 hk).1
  have hk1 := (bounds_u16 hk).2
  have hb0 := (bounds_u8 hb).1
  have hb1 := (bounds_u8 hb).2
  obtain ⟨b, rfl⟩ : ∃ x : UInt8, b = (x.toNat : Int) := ⟨UInt8.ofNat b.toNat, by rw [UInt8.toNat_ofNat']; omega⟩
  have hvl := ofW_allT hwl
  have hll : (l.map ofW).length = n := by rw [List.length_map, ha.1]
  clear hk hb hb0 hb1
  by_cases h1 : n ≤ 10 ∧ m ≤ 10
  · obtain ⟨h1, h2⟩ := h1
    have h1' : decide ((10 : Int) < (n : Int)) = false := decide_eq_false (by omega)
    have h2' : decide ((10 : Int) < (m : Int)) = false := decide_eq_false (by omega)
    go_enter Try.func7, Try.ntmps7
    go_wp2_with fail
    refine (tnoughts_any _).mono ?_
    rintro e w1 ⟨rfl, hb1⟩
    go_wp2_with fail
    refine (values_any A n c l _ (ha.below hb1) (by omega) (wideT hwl)).mono ?_
    rintro e w2 ⟨r2, rfl, ho2, hb2⟩
    have hbw2 : Below w.heap.size w w2 := Below.next' hb1 hb2 hb1.size
    generalize l.map ofW = L at *
    obtain ⟨A2, c2, rfl, hs2, hlc2, hcm2⟩ := ho2.forms
    rw [hll] at hs2 hlc2 ⊢
    clear ho2 hb2
    have hkl := packL_len L hvl
    have hk1' : 0 < (packL L).length := by unfold packL; simp
    rw [hll] at hkl
    have HLL := Lib.hid hll
    clear hll
    go_wp2_with fail
    refine (rpack_any A2 n c2 L _ hs2 (by omega) hvl).mono ?_
    rintro e w3 ⟨r3, rfl, ho3, hb3⟩
    have hbw3 : Below w.heap.size w w3 := Below.next' hbw2 hb3 hbw2.size
    generalize packL L = K at *
    obtain ⟨A3, c3, rfl, hs3, hlc3, hcm3⟩ := ho3.forms
    clear ho3 hb3 hs2
    generalize hKN : K.length = N at *
    have HKN := Lib.hid hKN
    clear hKN
    obtain ⟨i, hi⟩ : ∃ i : Nat, k % (N : Int) = (i : Int) := ⟨(k % (N : Int)).toNat, by have := Int.emod_nonneg k (show (N : Int) ≠ 0 by omega); omega⟩
    have hiN : i < N := by have := Int.emod_lt_of_pos k (show (0 : Int) < (N : Int) by omega); omega
    have hne0 : ((N : Int) == 0) = false := by rw [beq_eq_false_iff_ne]; omega
    go_wp2_with fail
    refine (join_any A3 B N m c3 d K r _ hs3 (hB.below hbw3) (by omega)).mono ?_
    rintro e w4 ⟨r4, rfl, ho4, hb4⟩
    have hbw4 : Below w.heap.size w w4 := Below.next' hbw3 hb4 hbw3.size
    have hPl : (K ++ r).length = N + m := by rw [List.length_append, HKN.out, hB.1]
    replace ho4 := ho4.mono hbw3.size
    generalize K ++ r = P at *
    clear hb4 hs3 hB
    rcases cut with _ | _
    · obtain ⟨g, cap, rfl, hg, hgl, hcl, hfr, hcap1, hcap2, hset⟩ := own_set ho4 i (by omega)
      rw [hPl] at hset hcap1 ⊢
      have hsp := hset b
      have hbp : Below w.heap.size w (w4.setCell ⟨g, i, none⟩ (.int .u8 (b.toNat : Int))) := hbw4.setCell hg _
      have hlP : (P.set i b).length ≤ 1000000 := by rw [List.length_set]; omega
      have hip : (i : Int) < (N : Int) + (m : Int) := by omega
      clear hset ho4
      generalize P.set i b = Q at *
      have hyl := unpackL_len Q
      go_wp2_with fail
      refine (unpack_any _ (N + m) _ Q _ hsp (by omega) (by omega) (by omega)).mono ?_
      rintro e w5 ⟨r5, rfl, ho5, hb5⟩
      have hbw5 : Below w.heap.size w w5 := Below.next' hbp hb5 hbp.size
      replace hsp := hsp.below hb5
      obtain ⟨A5, c5, rfl, hs5, hlc5, hcm5⟩ := ho5.forms
      clear ho5 hb5
      go_wp2_with fail
      refine (runpack_any _ (N + m) _ Q _ hsp (by omega) (by omega) (by omega)).mono ?_
      rintro e w6 ⟨r6, rfl, ho6, hb6⟩
      have hbw6 : Below w.heap.size w w6 := Below.next' hbw5 hb6 hbw5.size
      replace hs5 := hs5.below hb6
      obtain ⟨A6, c6, rfl, hs6, hlc6, hcm6⟩ := ho6.forms
      clear ho6 hb6 hsp
      rcases hY : unpackL Q with ⟨Y, y⟩
      rw [hY] at hs5 hs6 hlc5 hlc6 hyl
      simp only at hs5 hs6 hlc5 hlc6 hyl ⊢
      clear hY
      go_wp2_with fail
      refine (sameL_yes A5 A6 _ _ c5 c6 Y _ hs5 hs6 (by omega)).mono ?_
      rintro e w7 ⟨rfl, hb7⟩
      go_wp2
      go_ret
      exact ⟨rfl, Below.next' hbw6 hb7 hbw6.size⟩
    · obtain ⟨A4, c4, rfl, hs4, hlc4, hcm4⟩ := ho4.forms
      rw [hPl] at hs4 hlc4 ⊢
      have hsp := hs4.upto i (by omega)
      have hbp := hbw4
      have hlP : (P.take i).length ≤ 1000000 := by rw [List.length_take]; omega
      clear ho4 hs4
      generalize P.take i = Q at *
      have hyl := unpackL_len Q
      go_wp2_with fail
      refine (unpack_any _ (i) _ Q _ hsp (by omega) (by omega) (by omega)).mono ?_
      rintro e w5 ⟨r5, rfl, ho5, hb5⟩
      have hbw5 : Below w.heap.size w w5 := Below.next' hbp hb5 hbp.size
      replace hsp := hsp.below hb5
      obtain ⟨A5, c5, rfl, hs5, hlc5, hcm5⟩ := ho5.forms
      clear ho5 hb5
      go_wp2_with fail
      refine (runpack_any _ (i) _ Q _ hsp (by omega) (by omega) (by omega)).mono ?_
      rintro e w6 ⟨r6, rfl, ho6, hb6⟩
      have hbw6 : Below w.heap.size w w6 := Below.next' hbw5 hb6 hbw5.size
      replace hs5 := hs5.below hb6
      obtain ⟨A6, c6, rfl, hs6, hlc6, hcm6⟩ := ho6.forms
      clear ho6 hb6 hsp
      rcases hY : unpackL Q with ⟨Y, y⟩
      rw [hY] at hs5 hs6 hlc5 hlc6 hyl
      simp only at hs5 hs6 hlc5 hlc6 hyl ⊢
      clear hY
      go_wp2_with fail
      refine (sameL_yes A5 A6 _ _ c5 c6 Y _ hs5 hs6 (by omega)).mono ?_
      rintro e w7 ⟨rfl, hb7⟩
      go_wp2
      go_ret
      exact ⟨rfl, Below.next' hbw6 hb7 hbw6.size⟩
  · have h1' : decide ((10 : Int) < (n : Int)) = true ∨ (decide ((10 : Int) < (n : Int)) = false ∧ decide ((10 : Int) < (m : Int)) = true) := by
      by_cases h : n ≤ 10
      · exact .inr ⟨decide_eq_false (by omega), decide_eq_true (by omega)⟩
      · exact .inl (decide_eq_true (by omega))
    rcases h1' with h1' | ⟨h1', h2'⟩
    all_goals
      go_enter Try.func7, Try.ntmps7
      go_wp2_with fail
      refine (tnoughts_any _).mono ?_
      rintro e w1 ⟨rfl, hb1⟩
      go_wp2_with fail
      refine (tnoughts_any _).mono ?_
      rintro e w2 ⟨rfl, hb2⟩
      go_wp2
      go_ret
      exact ⟨rfl, Below.next' hb1 hb2 hb1.size⟩

end Go.Proofs.Ytcmagjeplofagaa
