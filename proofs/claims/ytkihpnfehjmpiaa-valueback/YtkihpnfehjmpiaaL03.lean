/-
  The walk of the law ValueBack.
-/
import Derived.Test.YtkihpnfehjmpiaaW8
import Derived.Test.YtkihpnfehjmpiaaOpen
import Derived.Test.YtkihpnfehjmpiaaPure3
namespace Go.Proofs.Ytkihpnfehjmpiaa
open Go.RowKit

set_option maxHeartbeats 4000000 in
theorem valueBack_walk (x : V) (A : Option Addr) (n c : Nat) (l : List UInt8) (w : World) (hx : x.Wide) (ha : Seg w A n l) (_hnc : n ≤ c) (_hcm : c ≤ maxLen) :
    Calls Try.prog 3 #[.agg #[.int .u8 x.k, .int .i64 x.n, .string x.s], .slice A n c] w fun e w' => e = .returned (.bool true) ∧ Below w.heap.size w w' := by
  obtain ⟨hx0, hx1, hx2, hx3, hx4⟩ := hx
  by_cases h60 : 60 < n
  · go_enter Try.func3, Try.ntmps3
    go_wp2_with fail
    refine (text_any _).mono ?_
    rintro e w1 ⟨rfl, hb1⟩
    have h60' : (60 : Int) < (n : Int) := by omega
    go_wp2_with fail
    refine (text_any _).mono ?_
    rintro e w2 ⟨rfl, hb2⟩
    go_wp2
    go_ret
    exact ⟨rfl, Below.next' (Below.next' ((Below.refl _ _).alloc (Nat.le_refl _) _) hb1 (by simp)) hb2 (by have := hb1.size; simp at this; omega)⟩
  · have hn : n ≤ 60 := by omega
    have h60' : (n : Int) ≤ 60 := by omega
    clear h60
    have hok := ofW_ok x hx2 hx3
    generalize hv : ofW x = v at hok
    have HV := Lib.hid hv
    clear hv
    go_enter Try.func3, Try.ntmps3
    go_wp2_with fail
    refine (text_any _).mono ?_
    rintro e w1 ⟨rfl, hb1⟩
    obtain ⟨p0, p1, p2, _, hsz1⟩ := box3 hb1
    have hbw1 : Below w.heap.size w w1 := Below.next' ((Below.refl _ _).alloc (Nat.le_refl _) _) hb1 (by simp)
    clear hb1
    go_wp2_with fail
    refine (of_any x _ hx0 hx1 hx4).mono ?_
    rintro e w2 ⟨rfl, hb2⟩
    rw [HV.out]
    have hbw2 : Below w.heap.size w w2 := Below.next' hbw1 hb2 hbw1.size
    clear hb2 p0 p1 p2 hsz1
    go_wp2_with fail
    refine (encode_any v _ hok).mono ?_
    rintro e w3 ⟨r3, rfl, ho3, hb3⟩
    obtain ⟨q0, q1, q2, _, hsz2⟩ := box3 hb3
    have hbw3 : Below w.heap.size w w3 := Below.next' (hbw2.alloc hbw2.size _) hb3 (by have := hbw2.size; simp; omega)
    obtain ⟨A3, c3, rfl, hs3, hlc3, hcm3⟩ := ho3.forms
    have hel : (enc v).length ≤ 1000 := enc_le v hok
    clear ho3 hb3
    go_wp2_with fail
    refine (join_any A3 A _ n c3 c (enc v) l _ hs3 (ha.below hbw3) (by omega)).mono ?_
    rintro e w4 ⟨r4, rfl, ho4, hb4⟩
    have hbw4 : Below w.heap.size w w4 := Below.next' hbw3 hb4 hbw3.size
    obtain ⟨A4, c4, rfl, hs4, hlc4, hcm4⟩ := ho4.forms
    have hs34 := hs3.below hb4
    replace q0 := cell_below hb4 q0
    replace q1 := cell_below hb4 q1
    replace q2 := cell_below hb4 q2
    have hl4 : (enc v ++ l).length ≤ 2000 := by rw [List.length_append, ha.1]; omega
    clear ho4 hb4 hs3
    have hD : dec (enc v ++ l) = (v, (enc v).length, 0) := dec_enc v l hok
    have hdr : (enc v ++ l).drop (enc v).length = l := List.drop_left
    rw [List.length_append] at hs4 hlc4 hl4
    go_wp2_with fail
    refine (decode_ok A4 _ c4 (enc v ++ l) v (enc v).length _ hs4 hlc4 hcm4 (by omega) hD).mono ?_
    rintro e w5 ⟨r5, rfl, ho5, hb5⟩
    rw [hdr] at ho5
    have hbw5 : Below w.heap.size w w5 := Below.next' hbw4 hb5 hbw4.size
    obtain ⟨A5, c5, rfl, hs5, hlc5, hcm5⟩ := ho5.forms
    have hs35 := hs34.below hb5
    replace q0 := cell_below hb5 q0
    replace q1 := cell_below hb5 q1
    replace q2 := cell_below hb5 q2
    have hll : l.length ≤ maxLen := Nat.le_trans hlc5 hcm5
    have hlt5 : w2.heap.size < w5.heap.size := World.block_lt_of_cell? w5 _ q0
    clear ho5 hb5 hs34 hD hdr hs4 hl4
    go_wp2_with fail
    refine (right_ok v _ hok).mono ?_
    rintro e w6 ⟨rfl, hb6⟩
    have hbw6 : Below w.heap.size w w6 := Below.next' (hbw5.alloc hbw5.size _) hb6 (by have := hbw5.size; simp; omega)
    obtain ⟨u0, u1, u2, _, hsz6⟩ := box3 hb6
    replace q0 := cell_below hb6 (cell_alloc _ q0)
    replace q1 := cell_below hb6 (cell_alloc _ q1)
    replace q2 := cell_below hb6 (cell_alloc _ q2)
    have hs36 := (hs35.alloc (.cells #[.int .u8 v.k, .int .i64 v.n, .string v.s] 26)).below hb6
    have hs56 := (hs5.alloc (.cells #[.int .u8 v.k, .int .i64 v.n, .string v.s] 26)).below hb6
    clear hb6 hs35 hs5
    go_wp2_with fail
    refine (rencode_any v _ hok).mono ?_
    rintro e w7 ⟨r7, rfl, ho7, hb7⟩
    have hbw7 : Below w.heap.size w w7 := Below.next' hbw6 hb7 hbw6.size
    obtain ⟨A7, c7, rfl, hs7, hlc7, hcm7⟩ := ho7.forms
    replace q0 := cell_below hb7 q0
    replace q1 := cell_below hb7 q1
    replace q2 := cell_below hb7 q2
    replace u0 := cell_below hb7 u0
    replace u1 := cell_below hb7 u1
    replace u2 := cell_below hb7 u2
    have hs37 := hs36.below hb7
    have hs57 := hs56.below hb7
    have hem : (enc v).length ≤ maxLen := Nat.le_trans hlc7 hcm7
    clear hb7 hs36 hs56 ho7
    go_wp2_with fail
    refine (bytes_yes A3 A7 _ _ c3 c7 (enc v) _ hs37 hs7 hem).mono ?_
    rintro e w8 ⟨rfl, hb8⟩
    have hbw8 : Below w.heap.size w w8 := Below.next' hbw7 hb8 hbw7.size
    replace q0 := cell_below hb8 q0
    replace q1 := cell_below hb8 q1
    replace q2 := cell_below hb8 q2
    replace u0 := cell_below hb8 u0
    replace u1 := cell_below hb8 u1
    replace u2 := cell_below hb8 u2
    have hs58 := hs57.below hb8
    clear hb8 hs37 hs7 hs57
    have keq := run_eqV v v
    have hvv : V.eqB v v = true := (V.eqB_iff _ _).2 rfl
    go_wp2_with fail
    refine (bytes_yes A5 A _ n c5 c l _ hs58 (ha.below hbw8) hll).mono ?_
    rintro e w9 ⟨rfl, hb9⟩
    go_wp2
    go_ret
    exact ⟨rfl, Below.next' hbw8 hb9 hbw8.size⟩

end Go.Proofs.Ytkihpnfehjmpiaa
