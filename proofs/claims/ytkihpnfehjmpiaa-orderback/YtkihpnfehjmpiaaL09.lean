/-
  The walk of the law OrderBack.
-/
import Derived.Test.YtkihpnfehjmpiaaWB2
import Derived.Test.YtkihpnfehjmpiaaWK
import Derived.Test.YtkihpnfehjmpiaaWS
import Derived.Test.YtkihpnfehjmpiaaOpenV
namespace Go.Proofs.Ytkihpnfehjmpiaa
open Go.RowKit

theorem ofW_allB {l : List V} (h : ∀ x ∈ l, x.Wide) : ∀ v ∈ l.map ofW, v.Ok := by
  intro v hv
  simp only [List.mem_map] at hv
  obtain ⟨x, hx, rfl⟩ := hv
  have := h x hx
  exact ofW_ok x this.2.2.1 this.2.2.2.1
theorem wideB {l : List V} (h : ∀ x ∈ l, x.Wide) : ∀ x ∈ l, 0 ≤ x.k ∧ x.k ≤ 255 ∧ x.s.size ≤ maxLen := fun x hx =>
  ⟨(h x hx).1, (h x hx).2.1, (h x hx).2.2.2.2⟩

set_option maxHeartbeats 1000000 in
theorem orderBack_walk (A : Option Addr) (n c : Nat) (l : List V) (w : World) (ha : SegV w A n l) (_ : n ≤ c) (_ : c ≤ maxLen) (hwl : ∀ x ∈ l, x.Wide) :
    Calls Try.prog 9 #[.slice A n c] w fun e w' => e = .returned (.bool true) ∧ Below w.heap.size w w' := by
  have hvl := ofW_allB hwl
  have hll : (l.map ofW).length = n := by rw [List.length_map, ha.1]
  by_cases h1 : n ≤ 12
  · have h1' : decide ((n : Int) ≤ 12) = true := decide_eq_true (by omega)
    go_enter Try.func9, Try.ntmps9
    go_wp2_with fail
    refine (nought_any _).mono ?_
    rintro e w1 ⟨rfl, hb1⟩
    go_wp2_with fail
    refine (small_any A n c _).mono ?_
    rintro e w' ⟨rfl, rfl⟩
    go_wp2_with fail
    refine (values_any A n c l _ (ha.below hb1) (by omega) (wideB hwl)).mono ?_
    rintro e w2 ⟨r2, rfl, ho2, hb2⟩
    have hbw2 : Below w.heap.size w w2 := Below.next' hb1 hb2 hb1.size
    generalize l.map ofW = L at *
    obtain ⟨A2, c2, rfl, hs2, hlc2, hcm2⟩ := ho2.forms
    rw [hll] at hs2 hlc2 ⊢
    clear ho2 hb2
    have hkl := keyOf_len L hvl
    rw [hll] at hkl
    have hbk := back_key L hvl
    have HLL := Lib.hid hll
    clear hll
    go_wp2_with fail
    refine (key_any A2 n c2 L _ hs2 (by omega) hvl).mono ?_
    rintro e w3 ⟨r3, rfl, ho3, hb3⟩
    have hbw3 : Below w.heap.size w w3 := Below.next' hbw2 hb3 hbw2.size
    replace hs2 := hs2.below hb3
    obtain ⟨K, hK⟩ : ∃ K, keyOf L = K := ⟨_, rfl⟩
    rw [hK] at ho3 hkl hbk
    have HK := Lib.hid hK
    have HBK := Lib.hid hbk
    clear hK hbk hb3
    obtain ⟨A3, c3, rfl, hs3, hlc3, hcm3⟩ := ho3.forms
    clear ho3
    go_wp2_with fail
    refine (back_any A3 _ c3 K _ hs3 hlc3 hcm3 (by omega)).mono ?_
    rintro e w4 ⟨r4, rfl, ho4, hb4⟩
    rw [HBK.out] at ho4 ⊢
    simp only [Option.getD_some, Option.isSome_some, if_true] at ho4 ⊢
    have hbw4 : Below w.heap.size w w4 := Below.next' hbw3 hb4 hbw3.size
    replace hs2 := hs2.below hb4
    replace hs3 := hs3.below hb4
    obtain ⟨A4, c4, rfl, hs4, hlc4, hcm4⟩ := ho4.forms
    rw [HLL.out] at hs4 hlc4 ⊢
    clear ho4 hb4
    go_wp2_with fail
    refine (rkey_any A2 n c2 L _ hs2 (by omega) hvl).mono ?_
    rintro e w5 ⟨r5, rfl, ho5, hb5⟩
    rw [HK.out] at ho5
    have hbw5 : Below w.heap.size w w5 := Below.next' hbw4 hb5 hbw4.size
    replace hs2 := hs2.below hb5
    replace hs3 := hs3.below hb5
    replace hs4 := hs4.below hb5
    obtain ⟨A5, c5, rfl, hs5, hlc5, hcm5⟩ := ho5.forms
    clear ho5 hb5
    go_wp2_with fail
    refine (bytes_yes A3 A5 _ _ c3 c5 K _ hs3 hs5 (Nat.le_trans hlc3 hcm3)).mono ?_
    rintro e w6 ⟨rfl, hb6⟩
    have hbw6 : Below w.heap.size w w6 := Below.next' hbw5 hb6 hbw5.size
    replace hs2 := hs2.below hb6
    replace hs4 := hs4.below hb6
    clear hb6
    go_wp2_with fail
    refine (sameL_yes A4 A2 _ _ c4 c2 L _ hs4 hs2 (by omega)).mono ?_
    rintro e w7 ⟨rfl, hb7⟩
    go_wp2
    go_ret
    exact ⟨rfl, Below.next' hbw6 hb7 hbw6.size⟩
  · have h1' : decide ((n : Int) ≤ 12) = false := decide_eq_false (by omega)
    go_enter Try.func9, Try.ntmps9
    go_wp2_with fail
    refine (nought_any _).mono ?_
    rintro e w1 ⟨rfl, hb1⟩
    go_wp2_with fail
    refine (small_any A n c _).mono ?_
    rintro e w' ⟨rfl, rfl⟩
    go_wp2_with fail
    refine (nought_any _).mono ?_
    rintro e w2 ⟨rfl, hb2⟩
    go_wp2
    go_ret
    exact ⟨rfl, Below.next' hb1 hb2 hb1.size⟩

end Go.Proofs.Ytkihpnfehjmpiaa
