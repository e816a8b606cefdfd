/-
  The walk of the law OrderJoins.
-/
import Derived.Test.YtkihpnfehjmpiaaWV
import Derived.Test.YtkihpnfehjmpiaaOpenV
namespace Go.Proofs.Ytkihpnfehjmpiaa
open Go.RowKit

theorem ofW_all {l : List V} (h : ∀ x ∈ l, x.Wide) : ∀ v ∈ l.map ofW, v.Ok := by
  intro v hv
  simp only [List.mem_map] at hv
  obtain ⟨x, hx, rfl⟩ := hv
  have := h x hx
  exact ofW_ok x this.2.2.1 this.2.2.2.1
theorem wide3 {l : List V} (h : ∀ x ∈ l, x.Wide) : ∀ x ∈ l, 0 ≤ x.k ∧ x.k ≤ 255 ∧ x.s.size ≤ maxLen := fun x hx =>
  ⟨(h x hx).1, (h x hx).2.1, (h x hx).2.2.2.2⟩

set_option maxHeartbeats 1000000 in
theorem orderJoins_walk (A : Option Addr) (n c : Nat) (l : List V) (B : Option Addr) (m d : Nat) (r : List V) (w : World) (ha : SegV w A n l) (_ : n ≤ c) (_ : c ≤ maxLen) (hwl : ∀ x ∈ l, x.Wide) (hb : SegV w B m r) (_ : m ≤ d) (_ : d ≤ maxLen) (hwr : ∀ x ∈ r, x.Wide) :
    Calls Try.prog 13 #[.slice A n c, .slice B m d] w fun e w' => e = .returned (.bool true) ∧ Below w.heap.size w w' := by
  have hvl := ofW_all hwl
  have hvr := ofW_all hwr
  have hll : (l.map ofW).length = n := by rw [List.length_map, ha.1]
  have hlr : (r.map ofW).length = m := by rw [List.length_map, hb.1]
  by_cases h1 : n ≤ 12
  · have h1' : decide ((n : Int) ≤ 12) = true := decide_eq_true (by omega)
    by_cases h2 : m ≤ 12
    · have h2' : decide ((m : Int) ≤ 12) = true := decide_eq_true (by omega)
      go_enter Try.func13, Try.ntmps13
      go_wp2_with fail
      refine (nought_any _).mono ?_
      rintro e w1 ⟨rfl, hb1⟩
      go_wp2_with fail
      refine (small_any A n c _).mono ?_
      rintro e w' ⟨rfl, rfl⟩
      go_wp2_with fail
      refine (small_any B m d _).mono ?_
      rintro e w' ⟨rfl, rfl⟩
      go_wp2_with fail
      refine (values_any A n c l _ (ha.below hb1) (by omega) (wide3 hwl)).mono ?_
      rintro e w2 ⟨r2, rfl, ho2, hb2⟩
      have hbw2 : Below w.heap.size w w2 := Below.next' hb1 hb2 hb1.size
      generalize l.map ofW = L at *
      obtain ⟨A2, c2, rfl, hs2, hlc2, hcm2⟩ := ho2.forms
      rw [hll] at hs2 hlc2 ⊢
      clear ho2
      go_wp2_with fail
      refine (values_any B m d r _ (hb.below hbw2) (by omega) (wide3 hwr)).mono ?_
      rintro e w3 ⟨r3, rfl, ho3, hb3⟩
      have hbw3 : Below w.heap.size w w3 := Below.next' hbw2 hb3 hbw2.size
      generalize r.map ofW = R at *
      obtain ⟨A3, c3, rfl, hs3, hlc3, hcm3⟩ := ho3.forms
      rw [hlr] at hs3 hlc3 ⊢
      replace hs2 := hs2.below hb3
      clear ho3 hb3 hb2 hb1
      have hkl := keyOf_len L hvl
      have hkr := keyOf_len R hvr
      rw [hll] at hkl
      rw [hlr] at hkr
      have HLL := Lib.hid hll
      have HLR := Lib.hid hlr
      clear hll hlr
      go_wp2_with (first
        | (at_builtin
           refine wpList_append_vals _ rfl (.tmp 25) (.tmp 26) _ _ vt rfl w.heap.size (.slice none 0 0) [] rfl (OwnV.nil _ _ _) A2 n c2 L rfl hs2 (by simp; omega) hbw3.size ?_
           intro v4 w4 ho4 hg4 hat4
           have hbw4 : Below w.heap.size w w4 := below_grownV hbw3 (OwnV.nil w3 w.heap.size 26) hg4 (Nat.le_refl _) hbw3.size
           have hb34 : Below w3.heap.size w3 w4 := (Below.refl _ _).grown hg4 (Nat.le_refl _) (by simp [Value.ownBlock])
           rw [List.nil_append] at ho4
           have hs34 := hs3.below hb34
           have hown4 : ∀ k, v4.ownBlock = some k → w3.heap.size ≤ k := fun k hk => by
             rcases hat4 with e | e
             · rw [e] at hk; simp [Value.ownBlock] at hk
             · rw [e] at hk; injection hk with hk; omega
           obtain ⟨A4, c4, rfl, hs4, hlc4, hcm4⟩ := ho4.forms
           clear hg4 hat4)
        | (at_builtin
           refine wpList_append_vals _ rfl (.tmp 28) (.tmp 29) _ _ vt rfl w.heap.size _ L rfl ho4 A3 m c3 R rfl hs34 (by have := HLL.out; omega) hbw4.size ?_
           intro v5 w5 ho5 hg5 hat5
           have hbw5 : Below w.heap.size w w5 := below_grownV hbw4 ho4 hg5 (Nat.le_refl _) hbw4.size
           have hb35 : Below w3.heap.size w3 w5 := hb34.grown hg5 hb34.size hown4))
      have hs25 := hs2.below hb35
      have hs35 := hs3.below hb35
      obtain ⟨LR, hLR⟩ : ∃ LR, L ++ R = LR := ⟨_, rfl⟩
      rw [hLR] at ho5
      have hvlr : ∀ v ∈ LR, v.Ok := by
        rw [← hLR]
        intro v hv
        rcases List.mem_append.1 hv with h | h
        · exact hvl v h
        · exact hvr v h
      have hlr2 : LR.length ≤ 24 := by
        have e1 := HLL.out
        have e2 := HLR.out
        rw [← hLR, List.length_append]
        omega
      have HKE : Hid (keyOf LR = keyOf L ++ keyOf R) := by rw [← hLR]; exact keyOf_append L R
      obtain ⟨A5, c5, rfl, hs5, hlc5, hcm5⟩ := ho5.forms
      clear hLR ho5 ho4 hb34 hb35 hs4 hs34 hg5 hat5 hown4 hs2 hs3
      refine (key_any A5 _ c5 LR _ hs5 (by omega) hvlr).mono ?_
      rintro e w6 ⟨r6, rfl, ho6, hb6⟩
      rw [HKE.out] at ho6
      have hbw6 : Below w.heap.size w w6 := Below.next' hbw5 hb6 hbw5.size
      replace hs25 := hs25.below hb6
      replace hs35 := hs35.below hb6
      obtain ⟨K6, hK6⟩ : ∃ K6, keyOf L ++ keyOf R = K6 := ⟨_, rfl⟩
      rw [hK6] at ho6
      have HK6 := Lib.hid hK6
      clear hK6 hb6
      obtain ⟨A6, c6, rfl, hs6, hlc6, hcm6⟩ := ho6.forms
      have hk6 : K6.length ≤ maxLen := Nat.le_trans hlc6 hcm6
      clear ho6
      go_wp2_with fail
      refine (key_any A2 n c2 L _ hs25 (by omega) hvl).mono ?_
      rintro e w7 ⟨r7, rfl, ho7, hb7⟩
      have hbw7 : Below w.heap.size w w7 := Below.next' hbw6 hb7 hbw6.size
      replace hs35 := hs35.below hb7
      replace hs6 := hs6.below hb7
      obtain ⟨A7, c7, rfl, hs7, hlc7, hcm7⟩ := ho7.forms
      clear ho7 hb7 hs25
      go_wp2_with fail
      refine (key_any A3 m c3 R _ hs35 (by omega) hvr).mono ?_
      rintro e w8 ⟨r8, rfl, ho8, hb8⟩
      have hbw8 : Below w.heap.size w w8 := Below.next' hbw7 hb8 hbw7.size
      replace hs6 := hs6.below hb8
      replace hs7 := hs7.below hb8
      obtain ⟨A8, c8, rfl, hs8, hlc8, hcm8⟩ := ho8.forms
      clear ho8 hb8 hs35
      go_wp2_with fail
      refine (join_any A7 A8 _ _ c7 c8 (keyOf L) (keyOf R) _ hs7 hs8 (by omega)).mono ?_
      rintro e w9 ⟨r9, rfl, ho9, hb9⟩
      rw [HK6.out] at ho9
      have hbw9 : Below w.heap.size w w9 := Below.next' hbw8 hb9 hbw8.size
      replace hs6 := hs6.below hb9
      obtain ⟨A9, c9, rfl, hs9, hlc9, hcm9⟩ := ho9.forms
      clear ho9 hb9
      go_wp2_with fail
      refine (bytes_yes A6 A9 _ _ c6 c9 K6 _ hs6 hs9 hk6).mono ?_
      rintro e w10 ⟨rfl, hb10⟩
      go_wp2
      go_ret
      exact ⟨rfl, Below.next' hbw9 hb10 hbw9.size⟩
    · have h2' : decide ((m : Int) ≤ 12) = false := decide_eq_false (by omega)
      go_enter Try.func13, Try.ntmps13
      go_wp2_with fail
      refine (nought_any _).mono ?_
      rintro e w1 ⟨rfl, hb1⟩
      go_wp2_with fail
      refine (small_any A n c _).mono ?_
      rintro e w' ⟨rfl, rfl⟩
      go_wp2_with fail
      refine (small_any B m d _).mono ?_
      rintro e w' ⟨rfl, rfl⟩
      go_wp2_with fail
      refine (nought_any _).mono ?_
      rintro e w2 ⟨rfl, hb2⟩
      go_wp2
      go_ret
      exact ⟨rfl, Below.next' hb1 hb2 hb1.size⟩
  · have h1' : decide ((n : Int) ≤ 12) = false := decide_eq_false (by omega)
    go_enter Try.func13, Try.ntmps13
    go_wp2_with fail
    refine (nought_any _).mono ?_
    rintro e w1 ⟨rfl, hb1⟩
    go_wp2_with fail
    refine (small_any A n c _).mono ?_
    rintro e w' ⟨rfl, rfl⟩
    go_wp2_with fail
    refine (nought_any _).mono ?_
    rintro e w2 ⟨rfl, hb2⟩
    go_wp2
    go_ret
    exact ⟨rfl, Below.next' hb1 hb2 hb1.size⟩

end Go.Proofs.Ytkihpnfehjmpiaa
