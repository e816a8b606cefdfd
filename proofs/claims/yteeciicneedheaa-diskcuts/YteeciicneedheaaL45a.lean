/-
  The walk of the law DiskCuts where it syncs.
-/
import Derived.Test.YteeciicneedheaaDK4
namespace Go.Proofs.Yteeciicneedheaa
open Go.RowKit

set_option maxRecDepth 8000 in
set_option maxHeartbeats 8000000 in
theorem diskCutstrueLow (A : Option Addr) (n c : Nat) (l : List UInt8) (A' : Option Addr) (n' c' : Nat) (l' : List UInt8) (x : Int) (w : World) (ha : Seg w A n l) (ha' : Seg w A' n' l') (h1 : n ≤ 40) (h2 : n' ≤ 40) (hx : x < 0) :
    Calls Try.prog 8 #[.slice A n c, .slice A' n' c', .int .i64 x, .bool true] w fun e w' => e = .returned (.bool true) ∧ Below w.heap.size w w' := by
  have d0 : decide ((40 : Int) < (n : Int)) = false := decide_eq_false (by omega)
  have d1 : decide ((40 : Int) < (n' : Int)) = false := decide_eq_false (by omega)
  obtain ⟨d, hd⟩ : ∃ d, l ++ l' = d := ⟨_, rfl⟩
  have HD := Lib.hid hd
  have hlen : d.length = n + n' := by rw [← hd, List.length_append, ha.1, ha'.1]
  have HL := Lib.hid hlen
  have HLN := Lib.hid ha.1
  clear hd hlen
  go_enter Try.func8, Try.ntmps8
  go_wp2_with fail
  refine (keeps_any _).mono ?_
  rintro e w1 ⟨rfl, hb1⟩
  have ha1 := ha.below hb1
  have ha1' := ha'.below hb1
  go_wp2_with fail
  refine (new_any A n c l _ ha1 (by omega)).mono ?_
  rintro e w2 ⟨g, v2, rfl, hd2, hb2⟩
  have hbw2 := Below.next' hb1 hb2 hb1.size
  have ha2' := ha1'.below hb2
  have hgB := hd2.hB
  have hd2 := hd2.mono hb1.size
  go_wp2_with fail
  refine (append_ok hd2 rfl A' n' c' l' ha2' (fun h a e => by have := ha1'.lt h a e; omega) (by rw [HLN.out]; omega)).mono ?_
  rw [HD.out]
  rintro e w3 ⟨rfl, v3, hd3, ho3, _⟩
  rw [dn_false] at hd3
  have hbw3 := hd2.belows hbw2 ho3
  clear ha1 ha1' ha2' hd2 hbw2 ho3 hb1 hb2
  go_wp2_with fail
  refine (sync_ok hd3 rfl).mono ?_
  rintro e w4 ⟨rfl, hd4, ho4⟩
  rw [dn_false] at hd4
  have hbw4 := hd3.belowg hbw3 ho4
  have ha4 := ha.below hbw4
  have ha4' := ha'.below hbw4
  go_wp2_with fail
  refine (join_any A A' n n' c c' l l' _ ha4 ha4' (by omega)).mono ?_
  rw [HD.out]
  rintro e w5 ⟨v5, rfl, ho5, hb5⟩
  obtain ⟨A5, c5, rfl, hs5, hdc5, _⟩ := ho5.forms
  have hd5 := hd4.below hb5
  have hbw5 := Below.next' hbw4 hb5 hbw4.size
  have hg4 := hd4.dc.lt
  have hA5 : ∀ a, A5 = some a → a.block ≠ g := by
    intro a e h
    subst e
    have := (ho5.lt a.block rfl).1
    omega
  clear ha4 ha4' hbw3 hd3 hbw4 hd4 hb5 ho5
  go_wp2_with fail
  refine (cut_ok hd5 rfl x (by rw [HL.out]; omega)).mono ?_
  rintro e w6 ⟨rfl, v6, hd6, ho6, hv6⟩
  rw [dn_false, show min (x).toNat d.length = 0 by omega] at hd6
  have hbw6 := hd5.belowg hbw5 ho6
  have hs6 := hs5.only ho6 (fun _ => hA5)
  clear hd5 hbw5 hs5 ho6 hv6
  have HT := Lib.hid (show (d.take (0)).length = 0 by rw [List.length_take]; omega)
  go_wp2_with fail
  refine (crash_any hd6 0 (by rw [HT.out]; have := HL.out; omega)).mono ?_
  rintro e w7 ⟨rfl, v7, hd7, ho7, _⟩
  rw [show 0 + min (0 : Int).toNat ((d.take (0)).length - 0) = 0 by simp, List.take_take, Nat.min_self] at hd7
  have hbw7 := hd6.belowg hbw6 ho7
  have hs7 := hs6.only ho7 (fun _ => hA5)
  clear hd6 hbw6 hs6 ho7 hA5
  go_wp2
  refine wp_region_noPanic (wp_region_till (fun _ => True) 16 (by kernel_rfl) ?_)
  have hd8 := hd7.drewN 1
  have hs8 := hs7.drewN 1
  have hbw8 := Below.drewN' hbw7 1
  change wpAnyT _ _ _ _ _ _ 17 _ _ (w7.drewN 1)
  clear hd7 hs7 hbw7
  generalize w7.drewN 1 = w8 at *
  refine wpAnyT_take (i := 0) (v := .int .i64 0) rfl (by kernel_rfl) (fun _ _ _ h => h) trivial (Or.inl ⟨rfl, fun W' hW => by go_simp⟩) ?_
  refine wpAnyT_take (i := 1) (v := .bool true) rfl (by kernel_rfl) (fun _ _ _ h => h) trivial (Or.inl ⟨rfl, fun W' hW => by go_simp⟩) ?_
  refine wpAnyT_take (i := 2) (v := .bool true) rfl (by kernel_rfl) (fun _ _ _ h => h) trivial (Or.inl ⟨rfl, fun W' hW => by go_simp⟩) ?_
  refine wpAnyT_take (i := 5) (v := .slice A5 d.length c5) rfl (by kernel_rfl) (fun _ _ _ h => h) trivial (Or.inl ⟨rfl, fun W' hW => by go_simp⟩) ?_
  refine wpAnyT_take (i := 6) (v := .int .i64 0) rfl (by kernel_rfl) (fun _ _ _ h => h) trivial (Or.inl ⟨rfl, fun W' hW => by go_simp⟩) ?_
  refine wpAnyT_take (i := 7) (v := .slice A5 (0) c5) rfl (by kernel_rfl) (fun _ _ _ h => h) trivial (Or.inl ⟨rfl, fun W' hW => by first | (go_simp; done) | (go_simp; intro h; exact absurd h (by omega))⟩) ?_
  refine wpAnyT_step 3 rfl (by kernel_rfl) ?_
  go_wp2_with fail
  refine ⟨.inr trivial, ?_⟩
  refine wpAnyT_step 4 rfl (by kernel_rfl) ?_
  go_wp2_with fail
  refine (dread_any hd8 (by rw [HT.out]; have := HL.out; omega)).mono ?_
  rintro e w9 ⟨v9, rfl, ho9, hb9⟩
  obtain ⟨A9, c9, rfl, hs9, _, _⟩ := ho9.forms
  rw [HT.out] at hs9 ⊢
  have hd9 := hd8.below hb9
  have hsa := hs8.below hb9
  have hbw9 := Below.next' hbw8 hb9 hbw8.size
  clear hd8 hs8 hbw8 hb9 ho9
  go_wp2_with fail
  refine ⟨.inr trivial, ?_⟩
  refine wpAnyT_step 8 rfl (by kernel_rfl) ?_
  go_wp2_with fail
  refine (bytes_any A9 A5 (0) (0) c9 c5 (d.take (0)) (d.take (0)) _ hs9 (hsa.upto (0) (by omega)) (by have := HL.out; simp only [maxLen]; omega)).mono ?_
  rintro e w10 ⟨rfl, u, rfl⟩
  rw [show (d.take (0) == d.take (0)) = true by simp]
  have hda := hd9.drewN u
  have hbwa := Below.drewN' hbw9 u
  clear hd9 hsa hbw9 hs9
  generalize w9.drewN u = w10 at *
  go_wp2_with fail
  refine ⟨.inr trivial, ?_⟩
  refine wpAnyT_step 9 rfl (by kernel_rfl) ?_
  go_wp2_with fail
  refine ⟨.inr trivial, ?_⟩
  refine wpAnyT_step 10 rfl (by kernel_rfl) ?_
  go_wp2_with fail
  refine ⟨.inr trivial, ?_⟩
  refine wpAnyT_take (i := 13) (v := .int .i64 0) rfl (by kernel_rfl) (fun _ _ _ h => h) trivial (Or.inl ⟨rfl, fun W' hW => by go_simp⟩) ?_
  refine wpAnyT_step 11 rfl (by kernel_rfl) ?_
  go_wp2_with fail
  refine ⟨.inr trivial, ?_⟩
  refine wpAnyT_step 12 rfl (by kernel_rfl) ?_
  go_wp2_with fail
  refine (safe_any hda.dc).mono ?_
  rintro e w11 ⟨rfl, rfl⟩
  go_wp2_with fail
  refine ⟨.inr trivial, ?_⟩
  refine wpAnyT_step 14 rfl (by kernel_rfl) ?_
  go_wp2_with fail
  refine ⟨.inr trivial, ?_⟩
  refine wpAnyT_step 15 rfl (by kernel_rfl) ?_
  go_wp2_with fail
  refine ⟨.inr trivial, ?_⟩
  refine wpAnyT_step 16 rfl (by kernel_rfl) ?_
  go_wp2_with fail
  refine ⟨.inl trivial, ?_⟩
  refine wpAnyT_done (by kernel_rfl) (NoPanic.normal ?_)
  go_wp2
  go_ret
  exact ⟨rfl, hbwa⟩

set_option maxRecDepth 8000 in
set_option maxHeartbeats 8000000 in
theorem diskCutstrueMid (A : Option Addr) (n c : Nat) (l : List UInt8) (A' : Option Addr) (n' c' : Nat) (l' : List UInt8) (y : Nat) (w : World) (ha : Seg w A n l) (ha' : Seg w A' n' l') (h1 : n ≤ 40) (h2 : n' ≤ 40) (hx : y ≤ n + n') :
    Calls Try.prog 8 #[.slice A n c, .slice A' n' c', .int .i64 (y : Int), .bool true] w fun e w' => e = .returned (.bool true) ∧ Below w.heap.size w w' := by
  have d0 : decide ((40 : Int) < (n : Int)) = false := decide_eq_false (by omega)
  have d1 : decide ((40 : Int) < (n' : Int)) = false := decide_eq_false (by omega)
  obtain ⟨d, hd⟩ : ∃ d, l ++ l' = d := ⟨_, rfl⟩
  have HD := Lib.hid hd
  have hlen : d.length = n + n' := by rw [← hd, List.length_append, ha.1, ha'.1]
  have HL := Lib.hid hlen
  have HLN := Lib.hid ha.1
  clear hd hlen
  have hx2 : ¬ ((d.length : Int) < (y : Int)) := by rw [HL.out]; omega
  have hx3 : ¬ ((y : Int) < 0) := by omega
  go_enter Try.func8, Try.ntmps8
  go_wp2_with fail
  refine (keeps_any _).mono ?_
  rintro e w1 ⟨rfl, hb1⟩
  have ha1 := ha.below hb1
  have ha1' := ha'.below hb1
  go_wp2_with fail
  refine (new_any A n c l _ ha1 (by omega)).mono ?_
  rintro e w2 ⟨g, v2, rfl, hd2, hb2⟩
  have hbw2 := Below.next' hb1 hb2 hb1.size
  have ha2' := ha1'.below hb2
  have hgB := hd2.hB
  have hd2 := hd2.mono hb1.size
  go_wp2_with fail
  refine (append_ok hd2 rfl A' n' c' l' ha2' (fun h a e => by have := ha1'.lt h a e; omega) (by rw [HLN.out]; omega)).mono ?_
  rw [HD.out]
  rintro e w3 ⟨rfl, v3, hd3, ho3, _⟩
  rw [dn_false] at hd3
  have hbw3 := hd2.belows hbw2 ho3
  clear ha1 ha1' ha2' hd2 hbw2 ho3 hb1 hb2
  go_wp2_with fail
  refine (sync_ok hd3 rfl).mono ?_
  rintro e w4 ⟨rfl, hd4, ho4⟩
  rw [dn_false] at hd4
  have hbw4 := hd3.belowg hbw3 ho4
  have ha4 := ha.below hbw4
  have ha4' := ha'.below hbw4
  go_wp2_with fail
  refine (join_any A A' n n' c c' l l' _ ha4 ha4' (by omega)).mono ?_
  rw [HD.out]
  rintro e w5 ⟨v5, rfl, ho5, hb5⟩
  obtain ⟨A5, c5, rfl, hs5, hdc5, _⟩ := ho5.forms
  have hd5 := hd4.below hb5
  have hbw5 := Below.next' hbw4 hb5 hbw4.size
  have hg4 := hd4.dc.lt
  have hA5 : ∀ a, A5 = some a → a.block ≠ g := by
    intro a e h
    subst e
    have := (ho5.lt a.block rfl).1
    omega
  clear ha4 ha4' hbw3 hd3 hbw4 hd4 hb5 ho5
  go_wp2_with fail
  refine (cut_ok hd5 rfl (y : Int) (by rw [HL.out]; omega)).mono ?_
  rintro e w6 ⟨rfl, v6, hd6, ho6, hv6⟩
  rw [dn_false, show min ((y : Int)).toNat d.length = y by omega] at hd6
  have hbw6 := hd5.belowg hbw5 ho6
  have hs6 := hs5.only ho6 (fun _ => hA5)
  clear hd5 hbw5 hs5 ho6 hv6
  have HT := Lib.hid (show (d.take (y)).length = y by rw [List.length_take]; omega)
  go_wp2_with fail
  refine (crash_any hd6 0 (by rw [HT.out]; have := HL.out; omega)).mono ?_
  rintro e w7 ⟨rfl, v7, hd7, ho7, _⟩
  rw [show y + min (0 : Int).toNat ((d.take (y)).length - y) = y by simp, List.take_take, Nat.min_self] at hd7
  have hbw7 := hd6.belowg hbw6 ho7
  have hs7 := hs6.only ho7 (fun _ => hA5)
  clear hd6 hbw6 hs6 ho7 hA5
  go_wp2
  refine wp_region_noPanic (wp_region_till (fun _ => True) 16 (by kernel_rfl) ?_)
  have hd8 := hd7.drewN 1
  have hs8 := hs7.drewN 1
  have hbw8 := Below.drewN' hbw7 1
  change wpAnyT _ _ _ _ _ _ 17 _ _ (w7.drewN 1)
  clear hd7 hs7 hbw7
  generalize w7.drewN 1 = w8 at *
  refine wpAnyT_take (i := 0) (v := .int .i64 0) rfl (by kernel_rfl) (fun _ _ _ h => h) trivial (Or.inl ⟨rfl, fun W' hW => by go_simp⟩) ?_
  refine wpAnyT_take (i := 1) (v := .bool true) rfl (by kernel_rfl) (fun _ _ _ h => h) trivial (Or.inl ⟨rfl, fun W' hW => by go_simp⟩) ?_
  refine wpAnyT_take (i := 2) (v := .bool true) rfl (by kernel_rfl) (fun _ _ _ h => h) trivial (Or.inl ⟨rfl, fun W' hW => by go_simp⟩) ?_
  refine wpAnyT_take (i := 5) (v := .slice A5 d.length c5) rfl (by kernel_rfl) (fun _ _ _ h => h) trivial (Or.inl ⟨rfl, fun W' hW => by go_simp⟩) ?_
  refine wpAnyT_take (i := 6) (v := .int .i64 (y : Int)) rfl (by kernel_rfl) (fun _ _ _ h => h) trivial (Or.inl ⟨rfl, fun W' hW => by go_simp⟩) ?_
  refine wpAnyT_take (i := 7) (v := .slice A5 (y) c5) rfl (by kernel_rfl) (fun _ _ _ h => h) trivial (Or.inl ⟨rfl, fun W' hW => by first | (go_simp; done) | (go_simp; intro h; exact absurd h (by omega))⟩) ?_
  refine wpAnyT_step 3 rfl (by kernel_rfl) ?_
  go_wp2_with fail
  refine ⟨.inr trivial, ?_⟩
  refine wpAnyT_step 4 rfl (by kernel_rfl) ?_
  go_wp2_with fail
  refine (dread_any hd8 (by rw [HT.out]; have := HL.out; omega)).mono ?_
  rintro e w9 ⟨v9, rfl, ho9, hb9⟩
  obtain ⟨A9, c9, rfl, hs9, _, _⟩ := ho9.forms
  rw [HT.out] at hs9 ⊢
  have hd9 := hd8.below hb9
  have hsa := hs8.below hb9
  have hbw9 := Below.next' hbw8 hb9 hbw8.size
  clear hd8 hs8 hbw8 hb9 ho9
  go_wp2_with fail
  refine ⟨.inr trivial, ?_⟩
  refine wpAnyT_step 8 rfl (by kernel_rfl) ?_
  go_wp2_with fail
  refine (bytes_any A9 A5 (y) (y) c9 c5 (d.take (y)) (d.take (y)) _ hs9 (hsa.upto (y) (by omega)) (by have := HL.out; simp only [maxLen]; omega)).mono ?_
  rintro e w10 ⟨rfl, u, rfl⟩
  rw [show (d.take (y) == d.take (y)) = true by simp]
  have hda := hd9.drewN u
  have hbwa := Below.drewN' hbw9 u
  clear hd9 hsa hbw9 hs9
  generalize w9.drewN u = w10 at *
  go_wp2_with fail
  refine ⟨.inr trivial, ?_⟩
  refine wpAnyT_step 9 rfl (by kernel_rfl) ?_
  go_wp2_with fail
  refine ⟨.inr trivial, ?_⟩
  refine wpAnyT_step 10 rfl (by kernel_rfl) ?_
  go_wp2_with fail
  refine ⟨.inr trivial, ?_⟩
  refine wpAnyT_take (i := 13) (v := .int .i64 (y : Int)) rfl (by kernel_rfl) (fun _ _ _ h => h) trivial (Or.inl ⟨rfl, fun W' hW => by go_simp⟩) ?_
  refine wpAnyT_step 11 rfl (by kernel_rfl) ?_
  go_wp2_with fail
  refine ⟨.inr trivial, ?_⟩
  refine wpAnyT_step 12 rfl (by kernel_rfl) ?_
  go_wp2_with fail
  refine (safe_any hda.dc).mono ?_
  rintro e w11 ⟨rfl, rfl⟩
  go_wp2_with fail
  refine ⟨.inr trivial, ?_⟩
  refine wpAnyT_step 14 rfl (by kernel_rfl) ?_
  go_wp2_with fail
  refine ⟨.inr trivial, ?_⟩
  refine wpAnyT_step 15 rfl (by kernel_rfl) ?_
  go_wp2_with fail
  refine ⟨.inr trivial, ?_⟩
  refine wpAnyT_step 16 rfl (by kernel_rfl) ?_
  go_wp2_with fail
  refine ⟨.inl trivial, ?_⟩
  refine wpAnyT_done (by kernel_rfl) (NoPanic.normal ?_)
  go_wp2
  go_ret
  exact ⟨rfl, hbwa⟩

set_option maxRecDepth 8000 in
set_option maxHeartbeats 8000000 in
theorem diskCutstrueHigh (A : Option Addr) (n c : Nat) (l : List UInt8) (A' : Option Addr) (n' c' : Nat) (l' : List UInt8) (x : Int) (w : World) (ha : Seg w A n l) (ha' : Seg w A' n' l') (h1 : n ≤ 40) (h2 : n' ≤ 40) (hx : ((n + n' : Nat) : Int) < x) :
    Calls Try.prog 8 #[.slice A n c, .slice A' n' c', .int .i64 x, .bool true] w fun e w' => e = .returned (.bool true) ∧ Below w.heap.size w w' := by
  have d0 : decide ((40 : Int) < (n : Int)) = false := decide_eq_false (by omega)
  have d1 : decide ((40 : Int) < (n' : Int)) = false := decide_eq_false (by omega)
  obtain ⟨d, hd⟩ : ∃ d, l ++ l' = d := ⟨_, rfl⟩
  have HD := Lib.hid hd
  have hlen : d.length = n + n' := by rw [← hd, List.length_append, ha.1, ha'.1]
  have HL := Lib.hid hlen
  have HLN := Lib.hid ha.1
  clear hd hlen
  have hx2 : (d.length : Int) < x := by rw [HL.out]; exact hx
  have hx3 : ¬ (x < 0) := by omega
  go_enter Try.func8, Try.ntmps8
  go_wp2_with fail
  refine (keeps_any _).mono ?_
  rintro e w1 ⟨rfl, hb1⟩
  have ha1 := ha.below hb1
  have ha1' := ha'.below hb1
  go_wp2_with fail
  refine (new_any A n c l _ ha1 (by omega)).mono ?_
  rintro e w2 ⟨g, v2, rfl, hd2, hb2⟩
  have hbw2 := Below.next' hb1 hb2 hb1.size
  have ha2' := ha1'.below hb2
  have hgB := hd2.hB
  have hd2 := hd2.mono hb1.size
  go_wp2_with fail
  refine (append_ok hd2 rfl A' n' c' l' ha2' (fun h a e => by have := ha1'.lt h a e; omega) (by rw [HLN.out]; omega)).mono ?_
  rw [HD.out]
  rintro e w3 ⟨rfl, v3, hd3, ho3, _⟩
  rw [dn_false] at hd3
  have hbw3 := hd2.belows hbw2 ho3
  clear ha1 ha1' ha2' hd2 hbw2 ho3 hb1 hb2
  go_wp2_with fail
  refine (sync_ok hd3 rfl).mono ?_
  rintro e w4 ⟨rfl, hd4, ho4⟩
  rw [dn_false] at hd4
  have hbw4 := hd3.belowg hbw3 ho4
  have ha4 := ha.below hbw4
  have ha4' := ha'.below hbw4
  go_wp2_with fail
  refine (join_any A A' n n' c c' l l' _ ha4 ha4' (by omega)).mono ?_
  rw [HD.out]
  rintro e w5 ⟨v5, rfl, ho5, hb5⟩
  obtain ⟨A5, c5, rfl, hs5, hdc5, _⟩ := ho5.forms
  have hd5 := hd4.below hb5
  have hbw5 := Below.next' hbw4 hb5 hbw4.size
  have hg4 := hd4.dc.lt
  have hA5 : ∀ a, A5 = some a → a.block ≠ g := by
    intro a e h
    subst e
    have := (ho5.lt a.block rfl).1
    omega
  clear ha4 ha4' hbw3 hd3 hbw4 hd4 hb5 ho5
  go_wp2_with fail
  refine (cut_ok hd5 rfl x (by rw [HL.out]; omega)).mono ?_
  rintro e w6 ⟨rfl, v6, hd6, ho6, hv6⟩
  rw [dn_false, show min (x).toNat d.length = d.length by omega] at hd6
  have hbw6 := hd5.belowg hbw5 ho6
  have hs6 := hs5.only ho6 (fun _ => hA5)
  clear hd5 hbw5 hs5 ho6 hv6
  have HT := Lib.hid (show (d.take (d.length)).length = d.length by rw [List.length_take]; omega)
  go_wp2_with fail
  refine (crash_any hd6 0 (by rw [HT.out]; have := HL.out; omega)).mono ?_
  rintro e w7 ⟨rfl, v7, hd7, ho7, _⟩
  rw [show d.length + min (0 : Int).toNat ((d.take (d.length)).length - d.length) = d.length by simp, List.take_take, Nat.min_self] at hd7
  have hbw7 := hd6.belowg hbw6 ho7
  have hs7 := hs6.only ho7 (fun _ => hA5)
  clear hd6 hbw6 hs6 ho7 hA5
  go_wp2
  refine wp_region_noPanic (wp_region_till (fun _ => True) 16 (by kernel_rfl) ?_)
  have hd8 := hd7.drewN 1
  have hs8 := hs7.drewN 1
  have hbw8 := Below.drewN' hbw7 1
  change wpAnyT _ _ _ _ _ _ 17 _ _ (w7.drewN 1)
  clear hd7 hs7 hbw7
  generalize w7.drewN 1 = w8 at *
  refine wpAnyT_take (i := 0) (v := .int .i64 0) rfl (by kernel_rfl) (fun _ _ _ h => h) trivial (Or.inl ⟨rfl, fun W' hW => by go_simp⟩) ?_
  refine wpAnyT_take (i := 1) (v := .bool true) rfl (by kernel_rfl) (fun _ _ _ h => h) trivial (Or.inl ⟨rfl, fun W' hW => by go_simp⟩) ?_
  refine wpAnyT_take (i := 2) (v := .bool true) rfl (by kernel_rfl) (fun _ _ _ h => h) trivial (Or.inl ⟨rfl, fun W' hW => by go_simp⟩) ?_
  refine wpAnyT_take (i := 5) (v := .slice A5 d.length c5) rfl (by kernel_rfl) (fun _ _ _ h => h) trivial (Or.inl ⟨rfl, fun W' hW => by go_simp⟩) ?_
  refine wpAnyT_take (i := 6) (v := .int .i64 (d.length : Int)) rfl (by kernel_rfl) (fun _ _ _ h => h) trivial (Or.inl ⟨rfl, fun W' hW => by go_simp⟩) ?_
  refine wpAnyT_take (i := 7) (v := .slice A5 (d.length) c5) rfl (by kernel_rfl) (fun _ _ _ h => h) trivial (Or.inl ⟨rfl, fun W' hW => by first | (go_simp; done) | (go_simp; intro h; exact absurd h (by omega))⟩) ?_
  refine wpAnyT_step 3 rfl (by kernel_rfl) ?_
  go_wp2_with fail
  refine ⟨.inr trivial, ?_⟩
  refine wpAnyT_step 4 rfl (by kernel_rfl) ?_
  go_wp2_with fail
  refine (dread_any hd8 (by rw [HT.out]; have := HL.out; omega)).mono ?_
  rintro e w9 ⟨v9, rfl, ho9, hb9⟩
  obtain ⟨A9, c9, rfl, hs9, _, _⟩ := ho9.forms
  rw [HT.out] at hs9 ⊢
  have hd9 := hd8.below hb9
  have hsa := hs8.below hb9
  have hbw9 := Below.next' hbw8 hb9 hbw8.size
  clear hd8 hs8 hbw8 hb9 ho9
  go_wp2_with fail
  refine ⟨.inr trivial, ?_⟩
  refine wpAnyT_step 8 rfl (by kernel_rfl) ?_
  go_wp2_with fail
  refine (bytes_any A9 A5 (d.length) (d.length) c9 c5 (d.take (d.length)) (d.take (d.length)) _ hs9 (hsa.upto (d.length) (by omega)) (by have := HL.out; simp only [maxLen]; omega)).mono ?_
  rintro e w10 ⟨rfl, u, rfl⟩
  rw [show (d.take (d.length) == d.take (d.length)) = true by simp]
  have hda := hd9.drewN u
  have hbwa := Below.drewN' hbw9 u
  clear hd9 hsa hbw9 hs9
  generalize w9.drewN u = w10 at *
  go_wp2_with fail
  refine ⟨.inr trivial, ?_⟩
  refine wpAnyT_step 9 rfl (by kernel_rfl) ?_
  go_wp2_with fail
  refine ⟨.inr trivial, ?_⟩
  refine wpAnyT_step 10 rfl (by kernel_rfl) ?_
  go_wp2_with fail
  refine ⟨.inr trivial, ?_⟩
  refine wpAnyT_take (i := 13) (v := .int .i64 (d.length : Int)) rfl (by kernel_rfl) (fun _ _ _ h => h) trivial (Or.inl ⟨rfl, fun W' hW => by go_simp⟩) ?_
  refine wpAnyT_step 11 rfl (by kernel_rfl) ?_
  go_wp2_with fail
  refine ⟨.inr trivial, ?_⟩
  refine wpAnyT_step 12 rfl (by kernel_rfl) ?_
  go_wp2_with fail
  refine (safe_any hda.dc).mono ?_
  rintro e w11 ⟨rfl, rfl⟩
  go_wp2_with fail
  refine ⟨.inr trivial, ?_⟩
  refine wpAnyT_step 14 rfl (by kernel_rfl) ?_
  go_wp2_with fail
  refine ⟨.inr trivial, ?_⟩
  refine wpAnyT_step 15 rfl (by kernel_rfl) ?_
  go_wp2_with fail
  refine ⟨.inr trivial, ?_⟩
  refine wpAnyT_step 16 rfl (by kernel_rfl) ?_
  go_wp2_with fail
  refine ⟨.inl trivial, ?_⟩
  refine wpAnyT_done (by kernel_rfl) (NoPanic.normal ?_)
  go_wp2
  go_ret
  exact ⟨rfl, hbwa⟩

end Go.Proofs.Yteeciicneedheaa
