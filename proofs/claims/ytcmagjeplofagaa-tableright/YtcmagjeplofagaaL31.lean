/-
  The walk of the law TableRows.
-/
import Derived.Test.YtcmagjeplofagaaWT9
import Derived.Test.YtcmagjeplofagaaWT10
import Derived.Test.YtcmagjeplofagaaWC
import Derived.Test.YtcmagjeplofagaaOpenF
namespace Go.Proofs.Ytcmagjeplofagaa
open Go.RowKit
open Go.Op (bytesLess)

def TabsP (w : World) (e : Ending) (w' : World) : Prop :=
  ∃ A N c T, e = .returned (.slice A N c) ∧ SegT w' A N T ∧ N ≤ c ∧ c ≤ maxLen ∧ TabsOk T ∧ 1 ≤ N ∧ N ≤ 4 ∧ Below w.heap.size w w'
theorem tables_seg (A : Option Addr) (n c : Nat) (L : List Frm) (w : World) (ha : SegF w A n L) (hn : n ≤ 1000000) :
    Calls Try.prog 12 #[.slice A n c] w (TabsP w) :=
  (tables_any A n c L w ha hn).mono fun e w' h => by
    obtain ⟨v, T, rfl, hT, hG, h1, h2, hb⟩ := h
    obtain ⟨A', c', rfl, hs, hlc, hcm⟩ := hT.segT
    exact ⟨A', T.length, c', T, rfl, hs, hlc, hcm, tabsOk_of T h1 h2 hG, h1, h2, hb⟩

theorem keyT_list (t : Nat) (l : List V) : (keyT t l).toList = UInt8.ofNat t :: keyOf l := by
  rw [ByteArray.toList_eq]
  simp [keyT]
theorem keyT_less (t : Nat) (l r : List V) : bytesLess (keyT t l).toList (keyT t r).toList = bytesLess (keyOf l) (keyOf r) := by
  rw [keyT_list, keyT_list, bl_same]
theorem keyT_eq (t : Nat) (l r : List V) (h : keyOf l ≠ keyOf r) : ((keyT t l).toList == (keyT t r).toList) = false := by
  rw [keyT_list, keyT_list, beq_eq_false_iff_ne]
  intro e
  injection e with _ e
  exact h e
theorem keyT_next (t : Nat) (l : List V) (ht : t < 255) : bytesLess (keyT t l).toList (keyT (t + 1) []).toList = true := by
  rw [keyT_list, keyT_list]
  refine bl_lt ?_ _ _
  rw [UInt8.lt_iff_toNat_lt]
  simp
  omega
theorem keyT_bare (t : Nat) (v : V) (l : List V) : bytesLess (keyT t []).toList (keyT t (v :: l)).toList = true := by
  rw [keyT_less]
  have e : keyOf (v :: l) = keyOne v ++ keyOf l := rfl
  have h : ∃ b r, keyOne v = b :: r := by
    unfold keyOne
    split
    · exact ⟨_, _, rfl⟩
    · split
      · exact ⟨_, _, rfl⟩
      · exact ⟨_, _, rfl⟩
  obtain ⟨b, r, h⟩ := h
  rw [e, h]
  rfl

set_option maxHeartbeats 2000000 in
set_option maxRecDepth 8000 in
theorem tableRows_core (A : Option Addr) (n c : Nat) (L : List Frm) (t : Nat) (Ba : Option Addr) (na ca : Nat) (la : List UInt8) (Bb : Option Addr) (nb cb : Nat) (lb : List UInt8) (w : World)
    (ha : SegF w A n L) (hcn : n ≤ maxLen) (htn : t ≤ 255) (hpa : Seg w Ba na la) (hpb : Seg w Bb nb lb) (hna : na ≤ 12) (hnb : nb ≤ 12) (hfew : fewB L = true) :
    Calls Try.prog 8 #[.slice A n c, .int .u8 (t : Int), .slice Ba na ca, .slice Bb nb cb] w fun e w' => e = .returned (.bool true) ∧ Below w.heap.size w w' := by
  have hn6 : n ≤ 6 := by
    have := (Bool.and_eq_true _ _ ▸ hfew : _ ∧ _).2
    rw [decide_eq_true_eq, ha.len] at this
    exact this
  have h1' : decide ((12 : Int) < (na : Int)) = false := decide_eq_false (by omega)
  have h2' : decide ((12 : Int) < (nb : Int)) = false := decide_eq_false (by omega)
  have ht255 : (t : Int) ≤ 255 := by omega
  go_enter Try.func8, Try.ntmps8
  go_wp2_with fail
  refine (tnoughts_any _).mono ?_
  rintro e w1 ⟨rfl, hb1⟩
  replace ha := SegF.below ha hb1
  replace hpa := hpa.below hb1
  replace hpb := hpb.below hb1
  go_wp2_with fail
  refine (few_any A n c L true _ ha hcn hfew).mono ?_
  rintro e w' ⟨rfl, rfl⟩
  go_wp2_with fail
  refine (tables_seg A n c L _ ha (by omega)).mono ?_
  rintro e w2 ⟨Ax, N, cx, T, rfl, hsx, hNc, hcm, hOk, hN1, hN4, hb2⟩
  have hbw2 : Below w.heap.size w w2 := Below.next' hb1 hb2 hb1.size
  replace hpa := hpa.below hb2
  replace hpb := hpb.below hb2
  clear hb2 ha
  obtain ⟨k, hk⟩ : ∃ k : Nat, (t : Int) % (N : Int) = (k : Int) := ⟨t % N, by omega⟩
  have hkN : k < N := by have := Int.emod_lt_of_pos (t : Int) (show (0 : Int) < (N : Int) by omega); omega
  have hne0 : ((N : Int) == 0) = false := by rw [beq_eq_false_iff_ne]; omega
  have hk0 : (0 : Int) ≤ (k : Int) := by omega
  have hk1 : (k : Int) < (N : Int) := by omega
  have hx := hOk.2.2.2.2 (T[k]'(by rw [hsx.len]; exact hkN)) (List.getElem_mem _)
  obtain ⟨g, o, B, m, cc, rfl, h0, h1, h2, hsc, hmc, hccm⟩ := SegT.at_ hsx hkN
  obtain ⟨x, hxe⟩ : ∃ x, T[k]'(by rw [hsx.len]; exact hkN) = x := ⟨_, rfl⟩
  have HXE := Lib.hid hxe
  rw [hxe] at h0 h2 hsc hx
  obtain ⟨hx1, hx8, hxk1, hxk2, hxc⟩ := hx
  obtain ⟨K, hK⟩ : ∃ K : Nat, x.k = (K : Int) := ⟨x.k.toNat, by omega⟩
  rw [hK] at h2 hxk1 hxk2
  have hml := hsc.1
  have hm8 : m ≤ 8 := by omega
  have hKm : K ≤ m := by omega
  have hK1 : 1 ≤ K := by omega
  have HK := Lib.hid hK
  have HML := Lib.hid hml
  clear hxe hK hml hOk
  have hfl := fun l => fitVals_length x.cols l 0
  have htk : x.cols.take m = x.cols := List.take_of_length_le (by rw [HML.out]; omega)
  have HTK := Lib.hid htk
  have HFL := Lib.hid hfl
  clear htk hfl
  go_wp2
  rw [hk]
  clear hk
  go_region_held3 (fun W' => W'.cell? ⟨g, o + k * 3, none⟩ = some (.string x.s) ∧ W'.cell? ⟨g, o + k * 3 + 1, none⟩ = some (.slice B m cc) ∧ W'.cell? ⟨g, o + k * 3 + 2, none⟩ = some (.int .i64 (K : Int)) ∧ Below w2.heap.size w2 W')
    (first | exact ⟨h0, h1, h2, (Below.refl _ _).drew⟩ | exact ⟨cell_below hB h0, cell_below hB h1, cell_below hB h2, hB⟩)
    (first
      | (go_at_call 15
         (with_reducible refine (fitR_any x.s (K : Int) B Ba m na cc ca x.cols la m _ (SegG.below hsc (‹_ ∧ _ ∧ _ ∧ Below _ _ _›).2.2.2) (hpa.below (‹_ ∧ _ ∧ _ ∧ Below _ _ _›).2.2.2) (by omega) (by omega) (Nat.le_refl _)).mono ?_)
         rw [HTK.out]
         rintro e w3 ⟨v3, rfl, ho3, hb3⟩
         have hB : Below w2.heap.size w2 w3 := Below.next (‹_ ∧ _ ∧ _ ∧ Below _ _ _›).2.2.2 hb3)
      | (go_at_call 15
         (with_reducible refine (fitR_any x.s (K : Int) B Bb m nb cc cb x.cols lb m _ (SegG.below hsc (‹_ ∧ _ ∧ _ ∧ Below _ _ _›).2.2.2) (hpb.below (‹_ ∧ _ ∧ _ ∧ Below _ _ _›).2.2.2) (by omega) (by omega) (Nat.le_refl _)).mono ?_)
         rw [HTK.out]
         rintro e w4 ⟨v4, rfl, ho4, hb4⟩
         have hB : Below w2.heap.size w2 w4 := Below.next (‹_ ∧ _ ∧ _ ∧ Below _ _ _›).2.2.2 hb4))
  have hbw4 : Below w.heap.size w w4 := Below.next' hbw2 hB hbw2.size
  have hok3 : ∀ v ∈ fitVals x.cols la 0, v.Ok := fitVals_ok x.cols la 0
  have hok4 : ∀ v ∈ fitVals x.cols lb 0, v.Ok := fitVals_ok x.cols lb 0
  have hl3 : (fitVals x.cols la 0).length = m := by rw [HFL.out, HML.out]
  have hl4 : (fitVals x.cols lb 0).length = m := by rw [HFL.out, HML.out]
  replace ho3 := ho3.below hb4
  generalize fitVals x.cols la 0 = P at *
  generalize fitVals x.cols lb 0 = R at *
  obtain ⟨A3, c3, rfl, hs3, hlc3, hcm3⟩ := ho3.forms
  obtain ⟨A4, c4, rfl, hs4, hlc4, hcm4⟩ := ho4.forms
  rw [hl3] at hs3 hlc3 ⊢
  rw [hl4] at hs4 hlc4 ⊢
  replace hsx := SegT.below hsx hB
  replace h0 := cell_below hB h0
  replace h1 := cell_below hB h1
  replace h2 := cell_below hB h2
  clear hB hb3 hb4 ho3 ho4 hsc hpa hpb hbw2
  have HL3 := Lib.hid hl3
  have HL4 := Lib.hid hl4
  clear hl3 hl4
  go_wp2_with fail
  refine (keyOf_any _ A3 N m cx c3 T P k _ hsx hs3 hlc3 hcm3 (by omega) (by omega) hkN (by rw [HXE.out, HK.out]; omega) (by rw [HXE.out, HK.out]; omega) hok3).mono ?_
  rw [HXE.out, HK.out, Int.toNat_natCast]
  rintro e w5 ⟨rfl, hb5⟩
  have hbw5 : Below w.heap.size w w5 := Below.next' hbw4 hb5 hbw4.size
  replace hsx := SegT.below hsx hb5
  replace hs3 := hs3.below hb5
  replace hs4 := hs4.below hb5
  replace h0 := cell_below hb5 h0
  replace h1 := cell_below hb5 h1
  replace h2 := cell_below hb5 h2
  clear hb5 hbw4
  go_wp2_with fail
  refine (keyOf_any _ A4 N m cx c4 T R k _ hsx hs4 hlc4 hcm4 (by omega) (by omega) hkN (by rw [HXE.out, HK.out]; omega) (by rw [HXE.out, HK.out]; omega) hok4).mono ?_
  rw [HXE.out, HK.out, Int.toNat_natCast]
  rintro e w6 ⟨rfl, hb6⟩
  have hbw6 : Below w.heap.size w w6 := Below.next' hbw5 hb6 hbw5.size
  replace hs3 := hs3.below hb6
  replace hs4 := hs4.below hb6
  replace h0 := cell_below hb6 h0
  replace h1 := cell_below hb6 h1
  replace h2 := cell_below hb6 h2
  clear hb6 hbw5 hsx
  have hKi : (K : Int) ≤ (m : Int) := by omega
  have hK0 : (0 : Int) ≤ (K : Int) := by omega
  have hKc3 : (K : Int) ≤ (c3 : Int) := by omega
  have hKc4 : (K : Int) ≤ (c4 : Int) := by omega
  have hs3k := hs3.upto K hKm
  have hs4k := hs4.upto K hKm
  have hokP : ∀ v ∈ P.take K, v.Ok := fun v hv => hok3 v (List.mem_of_mem_take hv)
  have hokR : ∀ v ∈ R.take K, v.Ok := fun v hv => hok4 v (List.mem_of_mem_take hv)
  have hPne : ∃ v l, P.take K = v :: l := by
    rcases hP : P.take K with _ | ⟨v, l⟩
    · have := congrArg List.length hP
      rw [List.length_take, HL3.out] at this
      simp at this
      omega
    · exact ⟨v, l, rfl⟩
  have HPNE := Lib.hid hPne
  clear hPne
  go_wp2
  go_region_held3 (fun W' => W'.cell? ⟨g, o + k * 3, none⟩ = some (.string x.s) ∧ W'.cell? ⟨g, o + k * 3 + 1, none⟩ = some (.slice B m cc) ∧ W'.cell? ⟨g, o + k * 3 + 2, none⟩ = some (.int .i64 (K : Int)) ∧ Below w6.heap.size w6 W')
    (first | exact ⟨h0, h1, h2, (Below.refl _ _).drew⟩ | exact ⟨cell_below hB h0, cell_below hB h1, cell_below hB h2, hB⟩)
    (first
      | (go_at_call 35
         refine (rcompareL_any A3 A4 K K c3 c4 (P.take K) (R.take K) _ (hs3k.below (‹_ ∧ _ ∧ _ ∧ Below _ _ _›).2.2.2) (hs4k.below (‹_ ∧ _ ∧ _ ∧ Below _ _ _›).2.2.2) (by omega) (by omega)).mono ?_
         rintro e w7 ⟨rfl, hb7⟩
         have hB : Below w6.heap.size w6 w7 := Below.next (‹_ ∧ _ ∧ _ ∧ Below _ _ _›).2.2.2 hb7))
  have hbw7 : Below w.heap.size w w7 := Below.next' hbw6 hB hbw6.size
  replace hs3k := hs3k.below hB
  replace h0 := cell_below hB h0
  replace h1 := cell_below hB h1
  replace h2 := cell_below hB h2
  clear hB hb7 hs3 hs4 hs4k hbw6
  have hcmp := cmpL_key (P.take K) (R.take K) hokP hokR
  have hcmpe : keyOf (P.take K) = keyOf (R.take K) → P.take K = R.take K := fun e => by
    have h8 := back_key _ hokP
    rw [e, back_key _ hokR] at h8
    exact (Option.some.inj h8).symm
  obtain ⟨v0, l0, hp0⟩ := HPNE.out
  have hnx := keyT_next k (P.take K) (by omega)
  have hbr := keyT_bare k v0 l0
  rw [← hp0] at hbr
  have hlt := keyT_less k (P.take K) (R.take K)
  have heqq : keyOf (P.take K) ≠ keyOf (R.take K) → ((keyT k (P.take K)).toList == (keyT k (R.take K)).toList) = false := keyT_eq k _ _
  obtain ⟨KP, hKP⟩ : ∃ KP, keyT k (P.take K) = KP := ⟨_, rfl⟩
  obtain ⟨KR, hKR⟩ : ∃ KR, keyT k (R.take K) = KR := ⟨_, rfl⟩
  obtain ⟨KN, hKN⟩ : ∃ KN, keyT (k + 1) [] = KN := ⟨_, rfl⟩
  obtain ⟨KB, hKB⟩ : ∃ KB, keyT k [] = KB := ⟨_, rfl⟩
  obtain ⟨cc0, hcc⟩ : ∃ cc0, cmpL (P.take K) (R.take K) = cc0 := ⟨_, rfl⟩
  rw [hKP, hKN] at hnx
  rw [hKP, hKB] at hbr
  rw [hKP, hKR] at hlt heqq
  rw [hcc] at hcmp
  have hgb : bytesLess KP.toList KB.toList = false ∧ (KP.toList == KB.toList) = false := by
    rcases bl_tri KB.toList KP.toList with ⟨_, h8, h9⟩ | ⟨h8, _⟩ | ⟨h8, _⟩
    · exact ⟨h8, by rw [beq_eq_false_iff_ne]; exact Ne.symm h9⟩
    · rw [h8] at hbr; cases hbr
    · rw [h8] at hbr; cases hbr
  obtain ⟨hgb1, hgb2⟩ := hgb
  have hcase : (cc0 = -1 ∧ bytesLess KP.toList KR.toList = true ∧ (KP.toList == KR.toList) = false) ∨ (cc0 = 1 ∧ bytesLess KP.toList KR.toList = false ∧ (KP.toList == KR.toList) = false) ∨ (cc0 = 0 ∧ KP = KR) := by
    rcases hcmp with ⟨h, h8, h9⟩ | ⟨h, h8, h9⟩ | ⟨h, h8⟩
    · refine .inl ⟨h, by rw [hlt, h8], heqq fun e => ?_⟩
      rw [e, bl_irr] at h8
      cases h8
    · refine .inr (.inl ⟨h, by rw [hlt, h8], heqq fun e => ?_⟩)
      rw [e, bl_irr] at h9
      cases h9
    · exact .inr (.inr ⟨h, by rw [← hKP, ← hKR, h8]⟩)
  rw [hKP, hKR, hcc]
  have HKP := Lib.hid hKP
  have HKN := Lib.hid hKN
  have HKB := Lib.hid hKB
  clear hcmp hcmpe hlt heqq hKP hKR hKN hKB hcc hbr hp0
  rcases hcase with ⟨rfl, hl, he⟩ | ⟨rfl, hl, he⟩ | ⟨rfl, rfl⟩
  · go_wp2_with fail
    refine (rtkey_any k A3 K c3 (P.take K) _ (by omega) hs3k (by omega) hokP).mono ?_
    rw [HKP.out]
    rintro e w8 ⟨rfl, hb8⟩
    have hbw8 : Below w.heap.size w w8 := Below.next' hbw7 hb8 hbw7.size
    clear hb8
    go_wp2_with fail
    rw [show ((k : Int) + 1) = ((k + 1 : Nat) : Int) from by omega]
    refine (tkey_any (k + 1) none 0 0 [] _ (by omega) (SegV.nil _ _) (by omega) (by simp)).mono ?_
    rw [HKN.out]
    rintro e w9 ⟨rfl, hb9⟩
    have hbw9 : Below w.heap.size w w9 := Below.next' hbw8 hb9 hbw8.size
    clear hb9
    go_wp2_with fail
    refine (tkey_any k none 0 0 [] _ (by omega) (SegV.nil _ _) (by omega) (by simp)).mono ?_
    rw [HKB.out]
    rintro e w10 ⟨rfl, hb10⟩
    go_wp2
    go_ret
    exact ⟨rfl, Below.next' hbw9 hb10 hbw9.size⟩
  · go_wp2_with fail
    refine (rtkey_any k A3 K c3 (P.take K) _ (by omega) hs3k (by omega) hokP).mono ?_
    rw [HKP.out]
    rintro e w8 ⟨rfl, hb8⟩
    have hbw8 : Below w.heap.size w w8 := Below.next' hbw7 hb8 hbw7.size
    clear hb8
    go_wp2_with fail
    rw [show ((k : Int) + 1) = ((k + 1 : Nat) : Int) from by omega]
    refine (tkey_any (k + 1) none 0 0 [] _ (by omega) (SegV.nil _ _) (by omega) (by simp)).mono ?_
    rw [HKN.out]
    rintro e w9 ⟨rfl, hb9⟩
    have hbw9 : Below w.heap.size w w9 := Below.next' hbw8 hb9 hbw8.size
    clear hb9
    go_wp2_with fail
    refine (tkey_any k none 0 0 [] _ (by omega) (SegV.nil _ _) (by omega) (by simp)).mono ?_
    rw [HKB.out]
    rintro e w10 ⟨rfl, hb10⟩
    go_wp2
    go_ret
    exact ⟨rfl, Below.next' hbw9 hb10 hbw9.size⟩
  · have hl := bl_irr KP.toList
    go_wp2_with fail
    refine (rtkey_any k A3 K c3 (P.take K) _ (by omega) hs3k (by omega) hokP).mono ?_
    rw [HKP.out]
    rintro e w8 ⟨rfl, hb8⟩
    have hbw8 : Below w.heap.size w w8 := Below.next' hbw7 hb8 hbw7.size
    clear hb8
    go_wp2_with fail
    rw [show ((k : Int) + 1) = ((k + 1 : Nat) : Int) from by omega]
    refine (tkey_any (k + 1) none 0 0 [] _ (by omega) (SegV.nil _ _) (by omega) (by simp)).mono ?_
    rw [HKN.out]
    rintro e w9 ⟨rfl, hb9⟩
    have hbw9 : Below w.heap.size w w9 := Below.next' hbw8 hb9 hbw8.size
    clear hb9
    go_wp2_with fail
    refine (tkey_any k none 0 0 [] _ (by omega) (SegV.nil _ _) (by omega) (by simp)).mono ?_
    rw [HKB.out]
    rintro e w10 ⟨rfl, hb10⟩
    go_wp2
    go_ret
    exact ⟨rfl, Below.next' hbw9 hb10 hbw9.size⟩

set_option maxHeartbeats 1000000 in
theorem tableRows_walk (A : Option Addr) (n c : Nat) (L : List Frm) (t : Int) (Ba : Option Addr) (na ca : Nat) (la : List UInt8) (Bb : Option Addr) (nb cb : Nat) (lb : List UInt8) (w : World)
    (ha : SegF w A n L) (hnc : n ≤ c) (hcm : c ≤ maxLen) (ht : (Lit.int .u8 t).wf = true) (hpa : Seg w Ba na la) (_ : na ≤ ca) (_ : ca ≤ maxLen) (hpb : Seg w Bb nb lb) (_ : nb ≤ cb) (_ : cb ≤ maxLen) :
    Calls Try.prog 8 #[.slice A n c, .int .u8 t, .slice Ba na ca, .slice Bb nb cb] w fun e w' => e = .returned (.bool true) ∧ Below w.heap.size w w' := by
  have ht0 := (bounds_u8 ht).1
  have ht1 := (bounds_u8 ht).2
  obtain ⟨t, rfl⟩ : ∃ x : Nat, t = (x : Int) := ⟨t.toNat, by omega⟩
  clear ht
  by_cases hgo : fewB L = true ∧ na ≤ 12 ∧ nb ≤ 12
  · exact tableRows_core A n c L t Ba na ca la Bb nb cb lb w ha (Nat.le_trans hnc hcm) (by omega) hpa hpb hgo.2.1 hgo.2.2 hgo.1
  · have h1' : fewB L = false ∨ (fewB L = true ∧ decide ((12 : Int) < (na : Int)) = true) ∨ (fewB L = true ∧ decide ((12 : Int) < (na : Int)) = false ∧ decide ((12 : Int) < (nb : Int)) = true) := by
      rcases hf : fewB L with _ | _
      · exact .inl rfl
      · by_cases h : na ≤ 12
        · exact .inr (.inr ⟨rfl, decide_eq_false (by omega), decide_eq_true (by
            rcases Nat.lt_or_ge 12 nb with h' | h'
            · omega
            · exact absurd ⟨hf, h, h'⟩ hgo)⟩)
        · exact .inr (.inl ⟨rfl, decide_eq_true (by omega)⟩)
    clear hgo
    rcases h1' with h1' | ⟨h1', h2'⟩ | ⟨h1', h2', h3'⟩
    all_goals
      have HF := Lib.hid h1'
      clear h1'
      go_enter Try.func8, Try.ntmps8
      go_wp2_with fail
      refine (tnoughts_any _).mono ?_
      rintro e w1 ⟨rfl, hb1⟩
      go_wp2_with fail
      refine (few_any A n c L _ _ (SegF.below ha hb1) (Nat.le_trans hnc hcm) HF.out).mono ?_
      rintro e w' ⟨rfl, rfl⟩
      go_wp2_with fail
      refine (tnoughts_any _).mono ?_
      rintro e w2 ⟨rfl, hb2⟩
      go_wp2
      go_ret
      exact ⟨rfl, Below.next' hb1 hb2 hb1.size⟩

end Go.Proofs.Ytcmagjeplofagaa
