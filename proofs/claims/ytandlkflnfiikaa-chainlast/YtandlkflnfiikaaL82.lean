/-
  The walk of the law ChainLast.
-/
import Derived.Test.YtandlkflnfiikaaCH8
namespace Go.Proofs.Ytandlkflnfiikaa
open Go.RowKit

theorem upn_all {L : List Ver} {last t : Int} (h : Asc L last) (ht : last ≤ t) : upn L t = L.length :=
  upn_eq t _ (Nat.le_refl _) (fun i _ x hx => Int.le_trans (h.2 x (List.mem_of_getElem? hx)) ht) fun x hx => by
    rw [List.getElem?_eq_none (Nat.le_refl _)] at hx
    cases hx
/-- What is seen at the greatest number. -/
theorem getV_last {M : List Ver} {x : Ver} {t : Int} (h : Asc (M ++ [x]) x.num) (ht : x.num ≤ t) : getV (M ++ [x]) t = if x.gone = true then ([], false) else (x.row, true) := by
  have hu := upn_all h ht
  rw [List.length_append, List.length_singleton] at hu
  exact getV_at hu (by simp)
theorem getV_lastTrim {M : List Ver} {x : Ver} {s : Int} (h : Asc (M ++ [x]) x.num) (hs : x.num ≤ s) : getV ((M ++ [x]).drop (trimN (M ++ [x]) s)) x.num = if x.gone = true then ([], false) else (x.row, true) := by
  have hu := upn_all h hs
  rw [List.length_append, List.length_singleton] at hu
  have hT := trimN_at hu (x := x) (by simp)
  by_cases hg : x.gone = true
  · rw [if_pos hg] at hT ⊢
    rw [hT, List.drop_of_length_le (by simp)]
    rfl
  · rw [if_neg hg] at hT ⊢
    rw [hT, List.drop_left]
    have h1 : upn [x] x.num = 0 + 1 := by simp [upn]
    rw [getV_at h1 rfl, if_neg hg]

set_option maxRecDepth 8000 in
set_option maxHeartbeats 8000000 in
theorem chainLast_core (A : Option Addr) (n c : Nat) (l : List UInt8) (A' : Option Addr) (n' c' : Nat) (l' : List UInt8) (w : World) (ha : Seg w A n l) (ha' : Seg w A' n' l') (h1 : n ≤ 40) (h2 : n' ≤ 20) :
    Calls Try.prog 8 #[.slice A n c, .slice A' n' c'] w fun e w' => e = .returned (.bool true) ∧ Below w.heap.size w w' := by
  have d0 : decide ((40 : Int) < (n : Int)) = false := decide_eq_false (by omega)
  have d1 : decide ((20 : Int) < (n' : Int)) = false := decide_eq_false (by omega)
  have HLN := Lib.hid ha.1
  have HLN' := Lib.hid ha'.1
  go_enter Try.func8, Try.ntmps8
  go_wp2_with fail
  refine (gone_any _).mono ?_
  rintro e w1 ⟨rfl, hb1⟩
  go_wp2_with fail
  refine (cnew_any _).mono ?_
  rintro e w2 ⟨g, rfl, h2, hb2, hgw⟩
  clear hgw
  have hbw2 := Below.next' hb1 hb2 hb1.size
  have hz1 := hb1.size
  clear hb1 hb2
  go_wp2_with fail
  go_loopw [6, 7, 8, 9] (fun t i _ _ w' => ∃ (j a : Nat) (v : Value) (S : List VerS) (L : List Ver), j ≤ n ∧ i = .int .i64 j ∧ t = .int .i64 a ∧ a ≤ 5 * j ∧ Ch w' w1.heap.size g v S L a ∧ L.length ≤ j ∧ (∀ x ∈ L, x.row.length ≤ 20) ∧ Below w.heap.size w w') (fun _ i _ _ _ => n - (intOf i).toNat)
  case atStart => exact ⟨0, 0, _, _, _, by omega, rfl, rfl, by omega, h2, by simp, by simp, hbw2⟩
  case round =>
    clear h2 hbw2
    obtain ⟨j, a, v, S, L, hj, rfl, rfl, haj, hd, hlj, hrow, hbw⟩ := hrel
    by_cases hlt : j < n
    · have hs := ha.below hbw
      have hr := ha'.below hbw
      obtain ⟨p, o, rfl, hc⟩ := hs.at_ hlt
      obtain ⟨m, hbm⟩ : ∃ m, (l[j]'(by rw [HLN.out]; exact hlt)).toNat = m := ⟨_, rfl⟩
      have hbl := byte_lt (l[j]'(by rw [HLN.out]; exact hlt))
      rw [hbm] at hc hbl
      obtain ⟨q, hq⟩ : ∃ q, m % 5 = q := ⟨_, rfl⟩
      have hq5 : q < 5 := by omega
      have eq5 : (m : Int) % 5 = (q : Int) := by omega
      obtain ⟨r, hr3⟩ : ∃ r, m % 3 = r := ⟨_, rfl⟩
      have er3 : (m : Int) % 3 = (r : Int) := by omega
      have hr3l : r < 3 := by omega
      obtain ⟨y, hy⟩ : ∃ y, a + (1 + q) = y := ⟨_, rfl⟩
      have ey : (a : Int) + (1 + (q : Int)) = (y : Int) := by omega
      have hc0 : w.cell? ⟨p, o + j, none⟩ = some (.int .u8 (m : Int)) := by
        obtain ⟨p', o', e', hc'⟩ := ha.at_ hlt
        injection e' with e'
        injection e' with e1 e2
        subst e1 e2
        rw [hbm] at hc'
        exact hc'
      have hpl : p < w.heap.size := World.block_lt_of_cell? w _ hc0
      clear hbm
      by_cases hB : 128 ≤ m
      · have eB : decide ((128 : Int) ≤ (m : Int)) = true := decide_eq_true (by omega)
        have eB2 : decide ((m : Int) < 128) = false := decide_eq_false (by omega)
        by_cases hR : r = 0
        · have eR : ((r : Int) == 0) = true := by simp; omega
          go_wp2_with fail
          refine (cput_ok hd (by omega) (y : Int) (by omega) A' n' c' l' true hr (by omega)).mono ?_
          rintro e w3 ⟨rfl, v3, S3, h3, ho3, _⟩
          rw [show strip ⟨(y : Int), l', true⟩ = ⟨(y : Int), [], true⟩ from rfl] at h3
          have hbw3 := hd.belows hbw ho3 hz1
          have hcl : ∀ W, Below w.heap.size w W → W.cell? ⟨p, o + j, none⟩ = some (.int .u8 (m : Int)) := fun W hW => (hW.cell (p := ⟨p, o + j, none⟩) hpl).trans hc0
          have hc3 := hcl w3 hbw3
          have hlen3 : (L ++ [(⟨(y : Int), [], true⟩ : Ver)]).length ≤ j + 1 := by simp; omega
          have hrow3 : ∀ x ∈ L ++ [(⟨(y : Int), [], true⟩ : Ver)], x.row.length ≤ 20 := by
            intro x hx
            rcases List.mem_append.1 hx with hx | hx
            · exact hrow x hx
            · simp at hx; subst hx; simp
          have hg3 := getV_last (t := (y : Int)) h3.asc (Int.le_refl _)
          have hgt := getV_lastTrim (s := (y : Int) + 1) h3.asc (show (y : Int) ≤ (y : Int) + 1 by omega)
          rw [show (if (⟨(y : Int), [], true⟩ : Ver).gone = true then (([] : List UInt8), false) else ((⟨(y : Int), [], true⟩ : Ver).row, true)) = ([], false) from rfl] at hg3 hgt
          generalize L ++ [(⟨(y : Int), [], true⟩ : Ver)] = L3 at *
          clear hd ho3 hbw hrow hs hr
          go_wp2_with fail
          refine (clast_any h3).mono ?_
          rintro e w4 ⟨rfl, rfl⟩
          go_wp2_with fail
          refine (cput_bad h3 (y : Int) (Int.le_refl _) _ _).mono ?_
          rintro e w5 ⟨rfl, rfl⟩
          go_wp2_with fail
          refine (ctrim_any h3 (by omega) ((y : Int) + 1)).mono ?_
          rintro e w6 ⟨rfl, v6, h6, ho6, _⟩
          have hbw6 := h3.belows hbw3 ho6 hz1
          have hlen6 : (L3.drop (trimN L3 ((y : Int) + 1))).length ≤ j + 1 := by rw [List.length_drop]; omega
          have hrow6 : ∀ x ∈ L3.drop (trimN L3 ((y : Int) + 1)), x.row.length ≤ 20 := fun x hx => hrow3 x (List.mem_of_mem_drop hx)
          have hc6 := hcl w6 hbw6
          have HG := Lib.hid hgt
          generalize L3.drop (trimN L3 ((y : Int) + 1)) = L6 at *
          clear h3 ho6 hbw3 hlen3 hrow3 hg3 hgt hc3
          go_wp2_with fail
          refine (cget_any h6 (by omega) (fun x hx => by have := hrow6 x hx; omega) (y : Int)).mono ?_
          rw [HG.out]
          rintro e w7 ⟨v7, rfl, ho7, hb7⟩
          obtain ⟨A7, c7, rfl, _, _, _⟩ := ho7.forms
          have h7 := h6.below hb7
          have hbw7 := Below.next' hbw6 hb7 hbw6.size
          have hc7 := hcl w7 hbw7
          clear h6 hb7 ho7 HG hbw6 hcl
          go_wp2_with fail
          refine (clast_any h7).mono ?_
          rintro e w8 ⟨rfl, rfl⟩
          go_wp2
          go_roundw
          case rel => exact ⟨j + 1, y, _, _, L6, hlt, by go_num, rfl, by omega, h7, hlen6, hrow6, hbw7⟩
          case measure => simp [intOf]; omega
        · have eR : ((r : Int) == 0) = false := by simp; omega
          go_wp2_with fail
          refine (cput_ok hd (by omega) (y : Int) (by omega) A' n' c' l' true hr (by omega)).mono ?_
          rintro e w3 ⟨rfl, v3, S3, h3, ho3, _⟩
          rw [show strip ⟨(y : Int), l', true⟩ = ⟨(y : Int), [], true⟩ from rfl] at h3
          have hbw3 := hd.belows hbw ho3 hz1
          have hcl : ∀ W, Below w.heap.size w W → W.cell? ⟨p, o + j, none⟩ = some (.int .u8 (m : Int)) := fun W hW => (hW.cell (p := ⟨p, o + j, none⟩) hpl).trans hc0
          have hc3 := hcl w3 hbw3
          have hlen3 : (L ++ [(⟨(y : Int), [], true⟩ : Ver)]).length ≤ j + 1 := by simp; omega
          have hrow3 : ∀ x ∈ L ++ [(⟨(y : Int), [], true⟩ : Ver)], x.row.length ≤ 20 := by
            intro x hx
            rcases List.mem_append.1 hx with hx | hx
            · exact hrow x hx
            · simp at hx; subst hx; simp
          have hg3 := getV_last (t := (y : Int)) h3.asc (Int.le_refl _)
          have hgt := getV_lastTrim (s := (y : Int) + 1) h3.asc (show (y : Int) ≤ (y : Int) + 1 by omega)
          rw [show (if (⟨(y : Int), [], true⟩ : Ver).gone = true then (([] : List UInt8), false) else ((⟨(y : Int), [], true⟩ : Ver).row, true)) = ([], false) from rfl] at hg3 hgt
          generalize L ++ [(⟨(y : Int), [], true⟩ : Ver)] = L3 at *
          clear hd ho3 hbw hrow hs hr
          go_wp2_with fail
          refine (clast_any h3).mono ?_
          rintro e w4 ⟨rfl, rfl⟩
          go_wp2_with fail
          refine (cput_bad h3 (y : Int) (Int.le_refl _) _ _).mono ?_
          rintro e w5 ⟨rfl, rfl⟩
          have HG := Lib.hid hg3
          clear hg3 hgt
          go_wp2_with fail
          refine (cget_any h3 (by omega) (fun x hx => by have := hrow3 x hx; omega) (y : Int)).mono ?_
          rw [HG.out]
          rintro e w7 ⟨v7, rfl, ho7, hb7⟩
          obtain ⟨A7, c7, rfl, _, _, _⟩ := ho7.forms
          have h7 := h3.below hb7
          have hbw7 := Below.next' hbw3 hb7 hbw3.size
          have hc7 := hcl w7 hbw7
          clear h3 hb7 ho7 HG hbw3 hcl
          go_wp2_with fail
          refine (clast_any h7).mono ?_
          rintro e w8 ⟨rfl, rfl⟩
          go_wp2
          go_roundw
          case rel => exact ⟨j + 1, y, _, _, L3, hlt, by go_num, rfl, by omega, h7, hlen3, hrow3, hbw7⟩
          case measure => simp [intOf]; omega
      · have eB : decide ((128 : Int) ≤ (m : Int)) = false := decide_eq_false (by omega)
        have eB2 : decide ((m : Int) < 128) = true := decide_eq_true (by omega)
        by_cases hR : r = 0
        · have eR : ((r : Int) == 0) = true := by simp; omega
          go_wp2_with fail
          refine (cput_ok hd (by omega) (y : Int) (by omega) A' n' c' l' false hr (by omega)).mono ?_
          rintro e w3 ⟨rfl, v3, S3, h3, ho3, _⟩
          rw [show strip ⟨(y : Int), l', false⟩ = ⟨(y : Int), l', false⟩ from rfl] at h3
          have hbw3 := hd.belows hbw ho3 hz1
          have hcl : ∀ W, Below w.heap.size w W → W.cell? ⟨p, o + j, none⟩ = some (.int .u8 (m : Int)) := fun W hW => (hW.cell (p := ⟨p, o + j, none⟩) hpl).trans hc0
          have hc3 := hcl w3 hbw3
          have hlen3 : (L ++ [(⟨(y : Int), l', false⟩ : Ver)]).length ≤ j + 1 := by simp; omega
          have hrow3 : ∀ x ∈ L ++ [(⟨(y : Int), l', false⟩ : Ver)], x.row.length ≤ 20 := by
            intro x hx
            rcases List.mem_append.1 hx with hx | hx
            · exact hrow x hx
            · simp at hx; subst hx; simp; have := HLN'.out; omega
          have hg3 := getV_last (t := (y : Int)) h3.asc (Int.le_refl _)
          have hgt := getV_lastTrim (s := (y : Int) + 1) h3.asc (show (y : Int) ≤ (y : Int) + 1 by omega)
          rw [show (if (⟨(y : Int), l', false⟩ : Ver).gone = true then (([] : List UInt8), false) else ((⟨(y : Int), l', false⟩ : Ver).row, true)) = (l', true) from rfl] at hg3 hgt
          generalize L ++ [(⟨(y : Int), l', false⟩ : Ver)] = L3 at *
          clear hd ho3 hbw hrow hs hr
          go_wp2_with fail
          refine (clast_any h3).mono ?_
          rintro e w4 ⟨rfl, rfl⟩
          go_wp2_with fail
          refine (cput_bad h3 (y : Int) (Int.le_refl _) _ _).mono ?_
          rintro e w5 ⟨rfl, rfl⟩
          go_wp2_with fail
          refine (ctrim_any h3 (by omega) ((y : Int) + 1)).mono ?_
          rintro e w6 ⟨rfl, v6, h6, ho6, _⟩
          have hbw6 := h3.belows hbw3 ho6 hz1
          have hlen6 : (L3.drop (trimN L3 ((y : Int) + 1))).length ≤ j + 1 := by rw [List.length_drop]; omega
          have hrow6 : ∀ x ∈ L3.drop (trimN L3 ((y : Int) + 1)), x.row.length ≤ 20 := fun x hx => hrow3 x (List.mem_of_mem_drop hx)
          have hc6 := hcl w6 hbw6
          have HG := Lib.hid hgt
          generalize L3.drop (trimN L3 ((y : Int) + 1)) = L6 at *
          clear h3 ho6 hbw3 hlen3 hrow3 hg3 hgt hc3
          go_wp2_with fail
          refine (cget_any h6 (by omega) (fun x hx => by have := hrow6 x hx; omega) (y : Int)).mono ?_
          rw [HG.out]
          rintro e w7 ⟨v7, rfl, ho7, hb7⟩
          obtain ⟨A7, c7, rfl, _, _, _⟩ := ho7.forms
          have h7 := h6.below hb7
          have hbw7 := Below.next' hbw6 hb7 hbw6.size
          have hc7 := hcl w7 hbw7
          clear h6 hb7 ho7 HG hbw6 hcl
          go_wp2_with fail
          refine (clast_any h7).mono ?_
          rintro e w8 ⟨rfl, rfl⟩
          go_wp2
          go_roundw
          case rel => exact ⟨j + 1, y, _, _, L6, hlt, by go_num, rfl, by omega, h7, hlen6, hrow6, hbw7⟩
          case measure => simp [intOf]; omega
        · have eR : ((r : Int) == 0) = false := by simp; omega
          go_wp2_with fail
          refine (cput_ok hd (by omega) (y : Int) (by omega) A' n' c' l' false hr (by omega)).mono ?_
          rintro e w3 ⟨rfl, v3, S3, h3, ho3, _⟩
          rw [show strip ⟨(y : Int), l', false⟩ = ⟨(y : Int), l', false⟩ from rfl] at h3
          have hbw3 := hd.belows hbw ho3 hz1
          have hcl : ∀ W, Below w.heap.size w W → W.cell? ⟨p, o + j, none⟩ = some (.int .u8 (m : Int)) := fun W hW => (hW.cell (p := ⟨p, o + j, none⟩) hpl).trans hc0
          have hc3 := hcl w3 hbw3
          have hlen3 : (L ++ [(⟨(y : Int), l', false⟩ : Ver)]).length ≤ j + 1 := by simp; omega
          have hrow3 : ∀ x ∈ L ++ [(⟨(y : Int), l', false⟩ : Ver)], x.row.length ≤ 20 := by
            intro x hx
            rcases List.mem_append.1 hx with hx | hx
            · exact hrow x hx
            · simp at hx; subst hx; simp; have := HLN'.out; omega
          have hg3 := getV_last (t := (y : Int)) h3.asc (Int.le_refl _)
          have hgt := getV_lastTrim (s := (y : Int) + 1) h3.asc (show (y : Int) ≤ (y : Int) + 1 by omega)
          rw [show (if (⟨(y : Int), l', false⟩ : Ver).gone = true then (([] : List UInt8), false) else ((⟨(y : Int), l', false⟩ : Ver).row, true)) = (l', true) from rfl] at hg3 hgt
          generalize L ++ [(⟨(y : Int), l', false⟩ : Ver)] = L3 at *
          clear hd ho3 hbw hrow hs hr
          go_wp2_with fail
          refine (clast_any h3).mono ?_
          rintro e w4 ⟨rfl, rfl⟩
          go_wp2_with fail
          refine (cput_bad h3 (y : Int) (Int.le_refl _) _ _).mono ?_
          rintro e w5 ⟨rfl, rfl⟩
          have HG := Lib.hid hg3
          clear hg3 hgt
          go_wp2_with fail
          refine (cget_any h3 (by omega) (fun x hx => by have := hrow3 x hx; omega) (y : Int)).mono ?_
          rw [HG.out]
          rintro e w7 ⟨v7, rfl, ho7, hb7⟩
          obtain ⟨A7, c7, rfl, _, _, _⟩ := ho7.forms
          have h7 := h3.below hb7
          have hbw7 := Below.next' hbw3 hb7 hbw3.size
          have hc7 := hcl w7 hbw7
          clear h3 hb7 ho7 HG hbw3 hcl
          go_wp2_with fail
          refine (clast_any h7).mono ?_
          rintro e w8 ⟨rfl, rfl⟩
          go_wp2
          go_roundw
          case rel => exact ⟨j + 1, y, _, _, L3, hlt, by go_num, rfl, by omega, h7, hlen3, hrow3, hbw7⟩
          case measure => simp [intOf]; omega
    · obtain rfl : n = j := by omega
      go_wp2_with fail
      refine (clast_any hd).mono ?_
      rintro e w4 ⟨rfl, rfl⟩
      go_wp2
      go_ret
      exact ⟨by simp, hbw⟩

set_option maxHeartbeats 4000000 in
theorem chainLast_long (A : Option Addr) (n c : Nat) (A' : Option Addr) (n' c' : Nat) (w : World) (h : ¬ (n ≤ 40 ∧ n' ≤ 20)) :
    Calls Try.prog 8 #[.slice A n c, .slice A' n' c'] w fun e w' => e = .returned (.bool true) ∧ Below w.heap.size w w' := by
  have hc : 40 < n ∨ n ≤ 40 ∧ 20 < n' := by omega
  rcases hc with g0 | ⟨g0, g1⟩
  · have d0 : decide ((40 : Int) < (n : Int)) = true := decide_eq_true (by omega)
    go_enter Try.func8, Try.ntmps8
    go_wp2_with fail
    refine (gone_any _).mono ?_
    rintro e w1 ⟨rfl, hb1⟩
    go_wp2_with fail
    refine (gone_any _).mono ?_
    rintro e w2 ⟨rfl, hb2⟩
    go_wp2
    go_ret
    exact ⟨rfl, Below.next' hb1 hb2 hb1.size⟩
  · have d0 : decide ((40 : Int) < (n : Int)) = false := decide_eq_false (by omega)
    have d1 : decide ((20 : Int) < (n' : Int)) = true := decide_eq_true (by omega)
    go_enter Try.func8, Try.ntmps8
    go_wp2_with fail
    refine (gone_any _).mono ?_
    rintro e w1 ⟨rfl, hb1⟩
    go_wp2_with fail
    refine (gone_any _).mono ?_
    rintro e w2 ⟨rfl, hb2⟩
    go_wp2
    go_ret
    exact ⟨rfl, Below.next' hb1 hb2 hb1.size⟩

theorem chainLast_walk (A : Option Addr) (n c : Nat) (l : List UInt8) (A' : Option Addr) (n' c' : Nat) (l' : List UInt8) (w : World) (ha : Seg w A n l) (_ : n ≤ c) (_ : c ≤ maxLen) (ha' : Seg w A' n' l') (_ : n' ≤ c') (_ : c' ≤ maxLen) :
    Calls Try.prog 8 #[.slice A n c, .slice A' n' c'] w fun e w' => e = .returned (.bool true) ∧ Below w.heap.size w w' := by
  by_cases h : n ≤ 40 ∧ n' ≤ 20
  · exact chainLast_core A n c l A' n' c' l' w ha ha' h.1 h.2
  · exact chainLast_long A n c A' n' c' w h

end Go.Proofs.Ytandlkflnfiikaa
