/-
  The walk of the law TableKeys.
-/
import Derived.Test.YtcmagjeplofagaaL29
import Derived.Test.YtcmagjeplofagaaWT4
import Derived.Test.YtcmagjeplofagaaWR
namespace Go.Proofs.Ytcmagjeplofagaa
open Go.RowKit

theorem bkP_some {w w' : World} {l : List UInt8} {e : Ending} {L : List V} (hL : back l = some L) (h : BackP w l e w') : ∃ v, e = .returned (.tuple #[v, .int .i64 0]) ∧ OwnV w' w.heap.size 41 v L ∧ Below w.heap.size w w' := by
  obtain ⟨v, h1, h2, h3⟩ := h
  rw [hL] at h1 h2
  exact ⟨v, h1, h2, h3⟩
theorem bkP_none {w w' : World} {l : List UInt8} {e : Ending} (hL : back l = none) (h : BackP w l e w') : ∃ v, e = .returned (.tuple #[v, .int .i64 2]) ∧ OwnV w' w.heap.size 41 v [] ∧ Below w.heap.size w w' := by
  obtain ⟨v, h1, h2, h3⟩ := h
  rw [hL] at h1 h2
  exact ⟨v, h1, h2, h3⟩
theorem spP_of {w w' : World} {l : List UInt8} {e : Ending} {t x : Int} {L : List V} (hL : splitL l = (t, L, x)) (h : SplitP w l e w') : ∃ v, e = .returned (.tuple #[.int .i64 t, v, .int .i64 x]) ∧ OwnV w' w.heap.size 41 v L ∧ Below w.heap.size w w' := by
  obtain ⟨v, h1, h2, h3⟩ := h
  rw [hL] at h1 h2
  exact ⟨v, h1, h2, h3⟩
theorem split_key (t : Nat) (L : List V) (ht : t ≤ 255) (h : ∀ v ∈ L, v.Ok) : splitL (keyT t L).data.toList = ((t : Int), L, 0) := by
  have e : (keyT t L).data.toList = UInt8.ofNat t :: keyOf L := by simp [keyT]
  rw [e]
  simp only [splitL]
  rw [back_key L h]
  have : (UInt8.ofNat t).toNat = t := by simp; omega
  simp only [this]
theorem keyT_size (t : Nat) (L : List V) (h : ∀ v ∈ L, v.Ok) : (keyT t L).size ≤ 500 * L.length + 1 := by
  have e : (keyT t L).data.toList = UInt8.ofNat t :: keyOf L := by simp [keyT]
  have h2 : (keyT t L).size = (keyT t L).data.toList.length := by simp
  rw [h2, e, List.length_cons]
  have := keyOf_len L h
  omega
theorem keyOne_posT (v : V) : 1 ≤ (keyOne v).length := by
  unfold keyOne
  split
  · simp
  · split <;> simp
theorem keyOf_geT (l : List V) : l.length ≤ (keyOf l).length := by
  induction l with
  | nil => simp
  | cons v l ih =>
    have := keyOne_posT v
    have e : keyOf (v :: l) = keyOne v ++ keyOf l := rfl
    rw [e, List.length_append, List.length_cons]
    omega

set_option maxHeartbeats 2000000 in
theorem tableKeys_walk (t : Int) (A : Option Addr) (n c : Nat) (l : List V) (B : Option Addr) (m d : Nat) (p : List UInt8) (w : World) (ht : (Lit.int .u8 t).wf = true) (ha : SegV w A n l) (_ : n ≤ c) (_ : c ≤ maxLen) (hwl : ∀ x ∈ l, x.Wide)
    (hp : Seg w B m p) (hmd : m ≤ d) (hdm : d ≤ maxLen) :
    Calls Try.prog 5 #[.int .u8 t, .slice A n c, .slice B m d] w fun e w' => e = .returned (.bool true) ∧ Below w.heap.size w w' := by
  have ht0 := (bounds_u8 ht).1
  have ht1 := (bounds_u8 ht).2
  obtain ⟨t, rfl⟩ : ∃ x : Nat, t = (x : Int) := ⟨t.toNat, by omega⟩
  have htn : t ≤ 255 := by omega
  clear ht
  have hvl := ofW_allT hwl
  have hll : (l.map ofW).length = n := by rw [List.length_map, ha.1]
  by_cases h1 : n ≤ 10 ∧ m ≤ 60
  · obtain ⟨h1, h2⟩ := h1
    have h1' : decide ((10 : Int) < (n : Int)) = false := decide_eq_false (by omega)
    have h2' : decide ((60 : Int) < (m : Int)) = false := decide_eq_false (by omega)
    go_enter Try.func5, Try.ntmps5
    go_wp2_with fail
    refine (tnoughts_any _).mono ?_
    rintro e w1 ⟨rfl, hb1⟩
    replace ha := ha.below hb1
    replace hp := hp.below hb1
    go_wp2_with fail
    refine (values_any A n c l _ ha (by omega) (wideT hwl)).mono ?_
    rintro e w2 ⟨r2, rfl, ho2, hb2⟩
    have hbw2 : Below w.heap.size w w2 := Below.next' hb1 hb2 hb1.size
    replace hp := hp.below hb2
    generalize l.map ofW = L at *
    obtain ⟨A2, c2, rfl, hs2, hlc2, hcm2⟩ := ho2.forms
    rw [hll] at hs2 hlc2 ⊢
    have hsk := split_key t L htn hvl
    have hks := keyT_size t L hvl
    have hll' : L.length ≤ 10 := by omega
    have HLL := Lib.hid hll
    clear ho2 hb2 hll
    go_wp2_with fail
    refine (tkey_any t A2 n c2 L _ htn hs2 (by omega) hvl).mono ?_
    rintro e w3 ⟨rfl, hb3⟩
    have hbw3 : Below w.heap.size w w3 := Below.next' hbw2 hb3 hbw2.size
    replace hs2 := hs2.below hb3
    replace hp := hp.below hb3
    obtain ⟨K, hK⟩ : ∃ K, keyT t L = K := ⟨_, rfl⟩
    rw [hK] at hks hsk ⊢
    have HK := Lib.hid hK
    have HSK := Lib.hid hsk
    clear hK hsk hb3
    go_wp2_with fail
    refine (split_any K _ (by omega)).mono ?_
    rintro e w4 hP
    obtain ⟨r4, rfl, ho4, hb4⟩ := spP_of HSK.out hP
    clear hP
    have hbw4 : Below w.heap.size w w4 := Below.next' hbw3 hb4 hbw3.size
    replace hs2 := hs2.below hb4
    replace hp := hp.below hb4
    obtain ⟨A4, c4, rfl, hs4, hlc4, hcm4⟩ := ho4.forms
    rw [HLL.out] at hs4 hlc4 ⊢
    clear ho4 hb4
    have kc := run_string_seg (P := Try.prog) w4 31 9 5 bt Try.underlying9 B m d p hp
    go_wp2_with fail
    have hp60 : (⟨p.toArray⟩ : ByteArray).size ≤ 1000000 := by
      have : (⟨p.toArray⟩ : ByteArray).size = p.length := by simp [ByteArray.size]
      rw [this, hp.1]
      omega
    refine (split_any ⟨p.toArray⟩ _ hp60).mono ?_
    rintro e w5 hP
    have hpe : (⟨p.toArray⟩ : ByteArray).data.toList = p := by simp
    rw [hpe] at hP
    clear kc hp60 hpe
    rcases p with _ | ⟨b, q⟩
    · obtain rfl : m = 0 := hp.1.symm
      obtain ⟨r5, rfl, ho5, hb5⟩ := spP_of (show splitL [] = (0, [], 3) from rfl) hP
      clear hP
      have hbw5 : Below w.heap.size w w5 := Below.next' hbw4 hb5 hbw4.size
      replace hs2 := hs2.below hb5
      replace hs4 := hs4.below hb5
      obtain ⟨A5, c5, rfl, hs5, hlc5, hcm5⟩ := ho5.forms
      clear ho5 hb5
      go_wp2_with fail
      refine (rtkey_any t A2 n c2 L _ htn hs2 (by omega) hvl).mono ?_
      rintro e w6 ⟨rfl, hb6⟩
      rw [HK.out]
      have hbw6 : Below w.heap.size w w6 := Below.next' hbw5 hb6 hbw5.size
      replace hs2 := hs2.below hb6
      replace hs4 := hs4.below hb6
      clear hb6
      go_wp2_with fail
      refine (sameL_yes A4 A2 _ _ c4 c2 L _ hs4 hs2 (by omega)).mono ?_
      rintro e w7 ⟨rfl, hb7⟩
      go_wp2
      go_ret
      exact ⟨rfl, Below.next' hbw6 hb7 hbw6.size⟩
    · have hml := hp.1
      rw [List.length_cons] at hml
      have hm0 : ((m : Int) == 0) = false := by rw [beq_eq_false_iff_ne]; omega
      have hm1 : (1 : Int) ≤ (m : Int) := by omega
      have hm2 : (0 : Int) < (m : Int) := by omega
      have hb256 := byte_lt b
      rcases hbk : back q with _ | M
      · obtain ⟨r5, rfl, ho5, hb5⟩ := spP_of (show splitL (b :: q) = (0, [], 2) by simp only [splitL]; rw [hbk]) hP
        clear hP
        have hbw5 : Below w.heap.size w w5 := Below.next' hbw4 hb5 hbw4.size
        replace hs2 := hs2.below hb5
        replace hs4 := hs4.below hb5
        replace hp := hp.below hb5
        obtain ⟨A5, c5, rfl, hs5, hlc5, hcm5⟩ := ho5.forms
        clear ho5 hb5
        obtain ⟨g, o, rfl, hc⟩ := hp.at_ (k := 0) (by omega)
        have hsq : Seg w5 (if d = 1 then some ⟨g, o, none⟩ else some ⟨g, o + 1, none⟩) (m - 1) q := hp.from_ 1 d (by omega) hmd
        obtain ⟨Aq, hAq⟩ : ∃ Aq, (if d = 1 then some (⟨g, o, none⟩ : Addr) else some ⟨g, o + 1, none⟩) = Aq := ⟨_, rfl⟩
        rw [hAq] at hsq
        clear hc
        go_wp2_with fail
        refine (rback_any Aq (m - 1) (d - 1) q _ hsq (by omega) (by omega) (by omega)).mono ?_
        rintro e w6 hP
        obtain ⟨r6, rfl, ho6, hb6⟩ := bkP_none hbk hP
        clear hP
        have hbw6 : Below w.heap.size w w6 := Below.next' hbw5 hb6 hbw5.size
        replace hs2 := hs2.below hb6
        replace hs4 := hs4.below hb6
        replace hs5 := hs5.below hb6
        obtain ⟨A6, c6, rfl, hs6, hlc6, hcm6⟩ := ho6.forms
        clear ho6 hb6 hAq hbk
        go_wp2_with fail
        refine (rtkey_any t A2 n c2 L _ htn hs2 (by omega) hvl).mono ?_
        rintro e w7 ⟨rfl, hb7⟩
        rw [HK.out]
        have hbw7 : Below w.heap.size w w7 := Below.next' hbw6 hb7 hbw6.size
        replace hs2 := hs2.below hb7
        replace hs4 := hs4.below hb7
        replace hs5 := hs5.below hb7
        replace hs6 := hs6.below hb7
        clear hb7
        go_wp2_with fail
        refine (sameL_yes A4 A2 _ _ c4 c2 L _ hs4 hs2 (by omega)).mono ?_
        rintro e w8 ⟨rfl, hb8⟩
        have hbw8 : Below w.heap.size w w8 := Below.next' hbw7 hb8 hbw7.size
        replace hs2 := hs2.below hb8
        replace hs4 := hs4.below hb8
        replace hs5 := hs5.below hb8
        replace hs6 := hs6.below hb8
        clear hb8
        go_wp2_with fail
        refine (tsame_any A4 A2 _ _ c4 c2 L L true _ hs4 hs2 (by omega) (by simp)).mono ?_
        rintro e w9 ⟨rfl, hb9⟩
        have hbw9 : Below w.heap.size w w9 := Below.next' hbw8 hb9 hbw8.size
        replace hs5 := hs5.below hb9
        replace hs6 := hs6.below hb9
        clear hb9
        go_wp2_with fail
        refine (sameL_yes A5 A6 _ _ c5 c6 [] _ hs5 hs6 (by simp)).mono ?_
        rintro e w10 ⟨rfl, hb10⟩
        go_wp2
        go_ret
        exact ⟨rfl, Below.next' hbw9 hb10 hbw9.size⟩
      · obtain ⟨r5, rfl, ho5, hb5⟩ := spP_of (show splitL (b :: q) = ((b.toNat : Int), M, 0) by simp only [splitL]; rw [hbk]) hP
        clear hP
        have hMl : M.length ≤ 60 := by
          have h9 := (key_back q.length q M (Nat.le_refl _) hbk).2
          have := keyOf_geT M
          rw [h9] at this
          omega
        have hbw5 : Below w.heap.size w w5 := Below.next' hbw4 hb5 hbw4.size
        replace hs2 := hs2.below hb5
        replace hs4 := hs4.below hb5
        replace hp := hp.below hb5
        obtain ⟨A5, c5, rfl, hs5, hlc5, hcm5⟩ := ho5.forms
        clear ho5 hb5
        obtain ⟨g, o, rfl, hc⟩ := hp.at_ (k := 0) (by omega)
        rw [Nat.add_zero] at hc
        simp only [List.getElem_cons_zero] at hc
        have hsq : Seg w5 (if d = 1 then some ⟨g, o, none⟩ else some ⟨g, o + 1, none⟩) (m - 1) q := hp.from_ 1 d (by omega) hmd
        obtain ⟨Aq, hAq⟩ : ∃ Aq, (if d = 1 then some (⟨g, o, none⟩ : Addr) else some ⟨g, o + 1, none⟩) = Aq := ⟨_, rfl⟩
        rw [hAq] at hsq
        go_wp2_with fail
        refine (rback_any Aq (m - 1) (d - 1) q _ hsq (by omega) (by omega) (by omega)).mono ?_
        rintro e w6 hP
        obtain ⟨r6, rfl, ho6, hb6⟩ := bkP_some hbk hP
        clear hP
        have hbw6 : Below w.heap.size w w6 := Below.next' hbw5 hb6 hbw5.size
        replace hs2 := hs2.below hb6
        replace hs4 := hs4.below hb6
        replace hs5 := hs5.below hb6
        replace hc := cell_below hb6 hc
        obtain ⟨A6, c6, rfl, hs6, hlc6, hcm6⟩ := ho6.forms
        clear ho6 hb6 hAq hbk
        go_wp2_with fail
        refine (rtkey_any t A2 n c2 L _ htn hs2 (by omega) hvl).mono ?_
        rintro e w7 ⟨rfl, hb7⟩
        rw [HK.out]
        have hbw7 : Below w.heap.size w w7 := Below.next' hbw6 hb7 hbw6.size
        replace hs2 := hs2.below hb7
        replace hs4 := hs4.below hb7
        replace hs5 := hs5.below hb7
        replace hs6 := hs6.below hb7
        replace hc := cell_below hb7 hc
        clear hb7
        go_wp2_with fail
        refine (sameL_yes A4 A2 _ _ c4 c2 L _ hs4 hs2 (by omega)).mono ?_
        rintro e w8 ⟨rfl, hb8⟩
        have hbw8 : Below w.heap.size w w8 := Below.next' hbw7 hb8 hbw7.size
        replace hs2 := hs2.below hb8
        replace hs4 := hs4.below hb8
        replace hs5 := hs5.below hb8
        replace hs6 := hs6.below hb8
        replace hc := cell_below hb8 hc
        clear hb8
        go_wp2_with fail
        refine (tsame_any A4 A2 _ _ c4 c2 L L true _ hs4 hs2 (by omega) (by simp)).mono ?_
        rintro e w9 ⟨rfl, hb9⟩
        have hbw9 : Below w.heap.size w w9 := Below.next' hbw8 hb9 hbw8.size
        replace hs5 := hs5.below hb9
        replace hs6 := hs6.below hb9
        replace hc := cell_below hb9 hc
        clear hb9
        go_wp2_with fail
        refine (sameL_yes A5 A6 _ _ c5 c6 M _ hs5 hs6 (by omega)).mono ?_
        rintro e w10 ⟨rfl, hb10⟩
        replace hc := cell_below hb10 hc
        go_wp2
        go_ret
        exact ⟨rfl, Below.next' hbw9 hb10 hbw9.size⟩
  · have h1' : decide ((10 : Int) < (n : Int)) = true ∨ (decide ((10 : Int) < (n : Int)) = false ∧ decide ((60 : Int) < (m : Int)) = true) := by
      by_cases h : n ≤ 10
      · exact .inr ⟨decide_eq_false (by omega), decide_eq_true (by omega)⟩
      · exact .inl (decide_eq_true (by omega))
    rcases h1' with h1' | ⟨h1', h2'⟩
    all_goals
      go_enter Try.func5, Try.ntmps5
      go_wp2_with fail
      refine (tnoughts_any _).mono ?_
      rintro e w1 ⟨rfl, hb1⟩
      go_wp2_with fail
      refine (tnoughts_any _).mono ?_
      rintro e w2 ⟨rfl, hb2⟩
      go_wp2
      go_ret
      exact ⟨rfl, Below.next' hb1 hb2 hb1.size⟩

end Go.Proofs.Ytcmagjeplofagaa
