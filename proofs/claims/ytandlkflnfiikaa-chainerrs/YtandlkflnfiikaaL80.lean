/-
  The walk of the law ChainErrs.
-/
import Derived.Test.YtandlkflnfiikaaCH8
namespace Go.Proofs.Ytandlkflnfiikaa
open Go.RowKit

set_option maxHeartbeats 4000000 in
theorem chainErrs_00 (x y : Int) (w : World) (hx : x ≤ 0) :
    Calls Try.prog 6 #[.int .i64 x, .int .i64 y, .bool false] w fun e w' => e = .returned (.bool true) ∧ Below w.heap.size w w' := by
  have d0 : decide ((0 : Int) < x) = false := decide_eq_false (by omega)
  go_enter Try.func6, Try.ntmps6
  go_wp2_with fail
  refine (cnew_any _).mono ?_
  rintro e w1 ⟨g, rfl, h1, hb1, hgw⟩
  clear hgw
  go_wp2_with fail
  refine (cput_bad h1 x (by omega) _ _).mono ?_
  rintro e w2 ⟨rfl, rfl⟩
  have h2 := h1
  have hb2 := hb1
  clear h1 hb1
  have hlen : ([] : List Ver).length ≤ 1 := by simp
  have h3 := h2
  have hb3 := hb2
  clear h2 hb2
  have hb4 := hb3
  clear hb3
  by_cases hy : 0 < y
  · have d1 : decide (0 < y) = true := decide_eq_true hy
    have kc := Lib.run_convert_bytes_const (P := Try.prog) w2 29 5 #[.int .u8 120] 1 1 Try.underlying29 Try.underlying5
    go_wp2_with fail
    have ha4 : Below w2.heap.size w2 (w2.alloc (.cells #[.int .u8 120] 5 (1, 2))) := (Below.refl _ _).alloc (Nat.le_refl _) _
    refine (cput_ok (h3.below ha4) (by omega) y hy _ 1 1 [120] false (Seg.newF w2 [120] _ _ _ _ rfl rfl) (by omega)).mono ?_
    rintro e w5 ⟨rfl, v5, S5, _, ho5, _⟩
    have hb5 := (h3.below ha4).belows (Below.next' hb4 ha4 hb4.size) ho5 (Nat.le_refl _)
    clear kc h3 hb4 ha4 ho5
    go_wp2_with fail
    refine (gone_any _).mono ?_
    rintro e w6 ⟨rfl, hb6⟩
    go_wp2
    go_ret
    exact ⟨rfl, Below.next' hb5 hb6 hb5.size⟩
  · have d1 : decide (0 < y) = false := decide_eq_false hy
    have kc := Lib.run_convert_bytes_const (P := Try.prog) w2 29 5 #[.int .u8 120] 1 1 Try.underlying29 Try.underlying5
    go_wp2_with fail
    have ha4 : Below w2.heap.size w2 (w2.alloc (.cells #[.int .u8 120] 5 (1, 2))) := (Below.refl _ _).alloc (Nat.le_refl _) _
    refine (cput_bad (h3.below ha4) y (by omega) _ _).mono ?_
    rintro e w5 ⟨rfl, rfl⟩
    have hb5 := Below.next' hb4 ha4 hb4.size
    clear kc h3 hb4 ha4
    generalize w2.alloc (.cells #[.int .u8 120] 5 (1, 2)) = w5 at *
    go_wp2_with fail
    refine (gone_any _).mono ?_
    rintro e w6 ⟨rfl, hb6⟩
    go_wp2
    go_ret
    exact ⟨rfl, Below.next' hb5 hb6 hb5.size⟩

set_option maxHeartbeats 4000000 in
theorem chainErrs_01 (x y : Int) (w : World) (hx : x ≤ 0) :
    Calls Try.prog 6 #[.int .i64 x, .int .i64 y, .bool true] w fun e w' => e = .returned (.bool true) ∧ Below w.heap.size w w' := by
  have d0 : decide ((0 : Int) < x) = false := decide_eq_false (by omega)
  go_enter Try.func6, Try.ntmps6
  go_wp2_with fail
  refine (cnew_any _).mono ?_
  rintro e w1 ⟨g, rfl, h1, hb1, hgw⟩
  clear hgw
  go_wp2_with fail
  refine (cput_bad h1 x (by omega) _ _).mono ?_
  rintro e w2 ⟨rfl, rfl⟩
  have h2 := h1
  have hb2 := hb1
  clear h1 hb1
  go_wp2_with fail
  refine (ctrim_any h2 (by simp) x).mono ?_
  rintro e w3 ⟨rfl, v3, h3, ho3, _⟩
  have hb3 := h2.belows hb2 ho3 (Nat.le_refl _)
  clear h2 hb2 ho3
  have hlen : (List.drop (trimN [] x) ([] : List Ver)).length ≤ 1 := by rw [List.length_drop]; simp
  generalize List.drop (trimN [] x) ([] : List Ver) = L3 at *
  have hb4 := hb3
  clear hb3
  by_cases hy : 0 < y
  · have d1 : decide (0 < y) = true := decide_eq_true hy
    have kc := Lib.run_convert_bytes_const (P := Try.prog) w3 29 5 #[.int .u8 120] 1 1 Try.underlying29 Try.underlying5
    go_wp2_with fail
    have ha4 : Below w3.heap.size w3 (w3.alloc (.cells #[.int .u8 120] 5 (1, 2))) := (Below.refl _ _).alloc (Nat.le_refl _) _
    refine (cput_ok (h3.below ha4) (by omega) y hy _ 1 1 [120] false (Seg.newF w3 [120] _ _ _ _ rfl rfl) (by omega)).mono ?_
    rintro e w5 ⟨rfl, v5, S5, _, ho5, _⟩
    have hb5 := (h3.below ha4).belows (Below.next' hb4 ha4 hb4.size) ho5 (Nat.le_refl _)
    clear kc h3 hb4 ha4 ho5
    go_wp2_with fail
    refine (gone_any _).mono ?_
    rintro e w6 ⟨rfl, hb6⟩
    go_wp2
    go_ret
    exact ⟨rfl, Below.next' hb5 hb6 hb5.size⟩
  · have d1 : decide (0 < y) = false := decide_eq_false hy
    have kc := Lib.run_convert_bytes_const (P := Try.prog) w3 29 5 #[.int .u8 120] 1 1 Try.underlying29 Try.underlying5
    go_wp2_with fail
    have ha4 : Below w3.heap.size w3 (w3.alloc (.cells #[.int .u8 120] 5 (1, 2))) := (Below.refl _ _).alloc (Nat.le_refl _) _
    refine (cput_bad (h3.below ha4) y (by omega) _ _).mono ?_
    rintro e w5 ⟨rfl, rfl⟩
    have hb5 := Below.next' hb4 ha4 hb4.size
    clear kc h3 hb4 ha4
    generalize w3.alloc (.cells #[.int .u8 120] 5 (1, 2)) = w5 at *
    go_wp2_with fail
    refine (gone_any _).mono ?_
    rintro e w6 ⟨rfl, hb6⟩
    go_wp2
    go_ret
    exact ⟨rfl, Below.next' hb5 hb6 hb5.size⟩

set_option maxHeartbeats 4000000 in
theorem chainErrs_10 (x y : Int) (w : World) (hx : 0 < x) :
    Calls Try.prog 6 #[.int .i64 x, .int .i64 y, .bool false] w fun e w' => e = .returned (.bool true) ∧ Below w.heap.size w w' := by
  have d0 : decide ((0 : Int) < x) = true := decide_eq_true (by omega)
  go_enter Try.func6, Try.ntmps6
  go_wp2_with fail
  refine (cnew_any _).mono ?_
  rintro e w1 ⟨g, rfl, h1, hb1, hgw⟩
  clear hgw
  go_wp2_with fail
  refine (cput_ok h1 (by simp) x (by omega) none 0 0 [] true (Seg.nil _ _) (by omega)).mono ?_
  rintro e w2 ⟨rfl, v2, S2, h2, ho2, _⟩
  rw [show [] ++ [strip ⟨x, [], true⟩] = [⟨x, [], true⟩] from rfl] at h2
  have hb2 := h1.belows hb1 ho2 (Nat.le_refl _)
  clear h1 hb1 ho2
  have hlen : ([⟨x, [], true⟩] : List Ver).length ≤ 1 := by simp
  have h3 := h2
  have hb3 := hb2
  clear h2 hb2
  have hb4 := hb3
  clear hb3
  by_cases hy : x < y
  · have d1 : decide (x < y) = true := decide_eq_true hy
    have kc := Lib.run_convert_bytes_const (P := Try.prog) w2 29 5 #[.int .u8 120] 1 1 Try.underlying29 Try.underlying5
    go_wp2_with fail
    have ha4 : Below w2.heap.size w2 (w2.alloc (.cells #[.int .u8 120] 5 (1, 2))) := (Below.refl _ _).alloc (Nat.le_refl _) _
    refine (cput_ok (h3.below ha4) (by omega) y hy _ 1 1 [120] false (Seg.newF w2 [120] _ _ _ _ rfl rfl) (by omega)).mono ?_
    rintro e w5 ⟨rfl, v5, S5, _, ho5, _⟩
    have hb5 := (h3.below ha4).belows (Below.next' hb4 ha4 hb4.size) ho5 (Nat.le_refl _)
    clear kc h3 hb4 ha4 ho5
    go_wp2_with fail
    refine (gone_any _).mono ?_
    rintro e w6 ⟨rfl, hb6⟩
    go_wp2
    go_ret
    exact ⟨rfl, Below.next' hb5 hb6 hb5.size⟩
  · have d1 : decide (x < y) = false := decide_eq_false hy
    have kc := Lib.run_convert_bytes_const (P := Try.prog) w2 29 5 #[.int .u8 120] 1 1 Try.underlying29 Try.underlying5
    go_wp2_with fail
    have ha4 : Below w2.heap.size w2 (w2.alloc (.cells #[.int .u8 120] 5 (1, 2))) := (Below.refl _ _).alloc (Nat.le_refl _) _
    refine (cput_bad (h3.below ha4) y (by omega) _ _).mono ?_
    rintro e w5 ⟨rfl, rfl⟩
    have hb5 := Below.next' hb4 ha4 hb4.size
    clear kc h3 hb4 ha4
    generalize w2.alloc (.cells #[.int .u8 120] 5 (1, 2)) = w5 at *
    go_wp2_with fail
    refine (gone_any _).mono ?_
    rintro e w6 ⟨rfl, hb6⟩
    go_wp2
    go_ret
    exact ⟨rfl, Below.next' hb5 hb6 hb5.size⟩

set_option maxHeartbeats 4000000 in
theorem chainErrs_11 (x y : Int) (w : World) (hx : 0 < x) :
    Calls Try.prog 6 #[.int .i64 x, .int .i64 y, .bool true] w fun e w' => e = .returned (.bool true) ∧ Below w.heap.size w w' := by
  have d0 : decide ((0 : Int) < x) = true := decide_eq_true (by omega)
  go_enter Try.func6, Try.ntmps6
  go_wp2_with fail
  refine (cnew_any _).mono ?_
  rintro e w1 ⟨g, rfl, h1, hb1, hgw⟩
  clear hgw
  go_wp2_with fail
  refine (cput_ok h1 (by simp) x (by omega) none 0 0 [] true (Seg.nil _ _) (by omega)).mono ?_
  rintro e w2 ⟨rfl, v2, S2, h2, ho2, _⟩
  rw [show [] ++ [strip ⟨x, [], true⟩] = [⟨x, [], true⟩] from rfl] at h2
  have hb2 := h1.belows hb1 ho2 (Nat.le_refl _)
  clear h1 hb1 ho2
  go_wp2_with fail
  refine (ctrim_any h2 (by simp) x).mono ?_
  rintro e w3 ⟨rfl, v3, h3, ho3, _⟩
  have hb3 := h2.belows hb2 ho3 (Nat.le_refl _)
  clear h2 hb2 ho3
  have hlen : (List.drop (trimN [⟨x, [], true⟩] x) ([⟨x, [], true⟩] : List Ver)).length ≤ 1 := by rw [List.length_drop]; simp
  generalize List.drop (trimN [⟨x, [], true⟩] x) ([⟨x, [], true⟩] : List Ver) = L3 at *
  have hb4 := hb3
  clear hb3
  by_cases hy : x < y
  · have d1 : decide (x < y) = true := decide_eq_true hy
    have kc := Lib.run_convert_bytes_const (P := Try.prog) w3 29 5 #[.int .u8 120] 1 1 Try.underlying29 Try.underlying5
    go_wp2_with fail
    have ha4 : Below w3.heap.size w3 (w3.alloc (.cells #[.int .u8 120] 5 (1, 2))) := (Below.refl _ _).alloc (Nat.le_refl _) _
    refine (cput_ok (h3.below ha4) (by omega) y hy _ 1 1 [120] false (Seg.newF w3 [120] _ _ _ _ rfl rfl) (by omega)).mono ?_
    rintro e w5 ⟨rfl, v5, S5, _, ho5, _⟩
    have hb5 := (h3.below ha4).belows (Below.next' hb4 ha4 hb4.size) ho5 (Nat.le_refl _)
    clear kc h3 hb4 ha4 ho5
    go_wp2_with fail
    refine (gone_any _).mono ?_
    rintro e w6 ⟨rfl, hb6⟩
    go_wp2
    go_ret
    exact ⟨rfl, Below.next' hb5 hb6 hb5.size⟩
  · have d1 : decide (x < y) = false := decide_eq_false hy
    have kc := Lib.run_convert_bytes_const (P := Try.prog) w3 29 5 #[.int .u8 120] 1 1 Try.underlying29 Try.underlying5
    go_wp2_with fail
    have ha4 : Below w3.heap.size w3 (w3.alloc (.cells #[.int .u8 120] 5 (1, 2))) := (Below.refl _ _).alloc (Nat.le_refl _) _
    refine (cput_bad (h3.below ha4) y (by omega) _ _).mono ?_
    rintro e w5 ⟨rfl, rfl⟩
    have hb5 := Below.next' hb4 ha4 hb4.size
    clear kc h3 hb4 ha4
    generalize w3.alloc (.cells #[.int .u8 120] 5 (1, 2)) = w5 at *
    go_wp2_with fail
    refine (gone_any _).mono ?_
    rintro e w6 ⟨rfl, hb6⟩
    go_wp2
    go_ret
    exact ⟨rfl, Below.next' hb5 hb6 hb5.size⟩

theorem chainErrs_walk (x y : Int) (b : Bool) (w : World) (_ : (Lit.int .i64 x).wf = true) (_ : (Lit.int .i64 y).wf = true) :
    Calls Try.prog 6 #[.int .i64 x, .int .i64 y, .bool b] w fun e w' => e = .returned (.bool true) ∧ Below w.heap.size w w' := by
  by_cases h : 0 < x
  · rcases b with _ | _
    · exact chainErrs_10 x y w h
    · exact chainErrs_11 x y w h
  · rcases b with _ | _
    · exact chainErrs_00 x y w (by omega)
    · exact chainErrs_01 x y w (by omega)

end Go.Proofs.Ytandlkflnfiikaa
