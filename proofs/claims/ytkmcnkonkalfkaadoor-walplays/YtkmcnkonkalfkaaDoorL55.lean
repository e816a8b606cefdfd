/-
  The walk of the law WalKeeps.
-/
import Derived.Test.YtkmcnkonkalfkaaDoorWW8
import Derived.Test.YtkmcnkonkalfkaaDoorL53
import Derived.Test.YtkmcnkonkalfkaaDoorL54
namespace Go.Proofs.YtkmcnkonkalfkaaDoor
open Go.RowKit

theorem SegL.fromA {w : World} {A : Option Addr} {n : Nat} {L : List (List UInt8)} (h : SegL w A n L) (k c : Nat) (hk : k ≤ n) (hc : n ≤ c) :
    SegL w (if c = k then A else Option.map (fun x => x.add k) A) (n - k) (L.drop k) := by
  refine ⟨by rw [List.length_drop, h.1], fun hn => ?_⟩
  rw [if_neg (by omega)]
  obtain ⟨g, o, rfl, hc'⟩ := h.2 (by omega)
  refine ⟨g, o + k, ?_, fun j l hj => ?_⟩
  · simp only [Option.map_some, Addr.add]
    split
    · subst k; rfl
    · rfl
  · rw [List.getElem?_drop] at hj
    have := hc' _ l hj
    rw [← Nat.add_assoc] at this
    exact this

theorem size_between : ∀ (T : List (List UInt8)) (t : Nat), t < sizeL T → ∃ m, m < T.length ∧ sizeL (T.take m) ≤ t ∧ t < sizeL (T.take (m + 1)) := by
  intro T
  induction T with
  | nil => intro t h; simp [sizeL] at h
  | cons q T ih =>
    intro t h
    simp only [sizeL] at h
    by_cases h1 : t < 8 + q.length
    · exact ⟨0, by simp, by simp [sizeL], by simp [sizeL]; exact h1⟩
    · obtain ⟨m, h2, h3, h4⟩ := ih (t - (8 + q.length)) (by omega)
      refine ⟨m + 1, by simp; exact h2, ?_, ?_⟩
      · simp only [List.take_succ_cons, sizeL]
        omega
      · simp only [List.take_succ_cons, sizeL] at h4 ⊢
        omega
theorem sizeL_mono (T : List (List UInt8)) (a b : Nat) (h : a ≤ b) : sizeL (T.take a) ≤ sizeL (T.take b) := by
  have := sizeL_take_le (T.take b) a
  rw [List.take_take, Nat.min_eq_left h] at this
  exact this
/-- What was synced is found, and behind it some first ones, whole. -/
theorem keep_found (L M : List (List UInt8)) (t : Nat) (h : ∀ q ∈ L ++ M, q.length ≤ 1048576) (h1 : sizeL L ≤ t) (h2 : t ≤ sizeL (L ++ M)) :
    ∃ m, L.length ≤ m ∧ m ≤ (L ++ M).length ∧ scanL ((allL (L ++ M)).take t) = (L ++ M).take m ∧ sizeL ((L ++ M).take m) ≤ t := by
  rcases Nat.lt_or_ge t (sizeL (L ++ M)) with hlt | hge
  · obtain ⟨m, h3, h4, h5⟩ := size_between _ t hlt
    refine ⟨m, ?_, by omega, scan_torn _ t m h h3 h4 h5, h4⟩
    rcases Nat.lt_or_ge m L.length with h6 | h6
    · have := sizeL_mono (L ++ M) (m + 1) L.length h6
      rw [List.take_left' rfl] at this
      omega
    · exact h6
  · have ht : t = sizeL (L ++ M) := by omega
    refine ⟨(L ++ M).length, by simp, Nat.le_refl _, ?_, ?_⟩
    · rw [List.take_of_length_le (by rw [allL_length]; omega), List.take_of_length_le (Nat.le_refl _)]
      have := scan_all (L ++ M) [] h
      rw [List.append_nil, scanL_none (p := []) (firstL_short (by simp)), List.append_nil] at this
      exact this
    · rw [List.take_of_length_le (Nat.le_refl _)]
      omega
theorem again_found (T : List (List UInt8)) (t m : Nat) (h : ∀ q ∈ T, q.length ≤ 1048576) (h4 : sizeL (T.take m) ≤ t) : ((allL T).take t).take (sizeL (T.take m)) = allL (T.take m) ∧ scanL (allL (T.take m)) = T.take m := by
  refine ⟨by rw [List.take_take, Nat.min_eq_left h4, allL_take], ?_⟩
  have := scan_all (T.take m) [] fun q hq => h q (List.mem_of_mem_take hq)
  rw [List.append_nil, scanL_none (p := []) (firstL_short (by simp)), List.append_nil] at this
  exact this
theorem dks_moved {w : World} {g gl : Nat} {v v' : Value} (hng : ¬ DkS g v gl) (hm : Moved w v v') (hl : gl < w.heap.size) : ¬ DkS g v' gl := by
  intro hk
  rcases hk with e | e
  · exact hng (.inl e)
  · rcases hm _ e with h | h
    · exact hng (.inr h)
    · omega

set_option maxRecDepth 8000 in
set_option maxHeartbeats 32000000 in
theorem walKeeps_core (A : Option Addr) (n c : Nat) (L : List (List UInt8)) (A' : Option Addr) (n' c' : Nat) (M : List (List UInt8)) (x kk : Nat) (hx : x % 1500 = kk) (w : World) (ha : SegL w A n L) (hc : n ≤ c) (hcm : c ≤ maxLen) (ha' : SegL w A' n' M) (hc' : n' ≤ c') (hcm' : c' ≤ maxLen) (hS : Small L) (hS' : Small M) (ht : Tab w) :
    Calls Tryd.prog 7 #[.slice A n c, .slice A' n' c', .int .u16 (x : Int)] w fun e w' => e = .returned (.bool true) ∧ Below w.heap.size w w' := by
  have hm1 : (x : Int) % 1500 = (kk : Int) := by omega
  have hm2 : Int.tmod (x : Int) 1500 = (kk : Int) := by rw [Int.tmod_eq_emod_of_nonneg (by omega)]; omega
  clear hx
  have HCM := Lib.hid hcm
  have HCM' := Lib.hid hcm'
  have hn20 : n ≤ 20 := by rw [← ha.1]; exact hS.1
  have hn20' : n' ≤ 20 := by rw [← ha'.1]; exact hS'.1
  have HLN := Lib.hid ha.1
  have HLN' := Lib.hid ha'.1
  have hszL : sizeL L ≤ 1360 := by
    have h1 := Small.size (L := L) hS.2
    have h2 := hS.1
    omega
  have hszM : sizeL M ≤ 1360 := by
    have h1 := Small.size (L := M) hS'.2
    have h2 := hS'.1
    omega
  have HS := Lib.hid hS
  have HS' := Lib.hid hS'
  clear hS hS' hcm hcm'
  go_enter Tryd.func7, Tryd.ntmps7
  go_wp2_with fail
  refine (both_any _ ht).mono ?_
  rintro e w1 ⟨rfl, hb1⟩
  go_wp2_with fail
  refine (small_any A n c L _ (ha.below hb1) hc HCM.out).mono ?_
  rintro e w0 ⟨⟨b, rfl, hb⟩, rfl⟩
  obtain rfl : b = true := hb.2 HS.out
  clear hb
  go_wp2_with fail
  refine (small_any A' n' c' M _ (ha'.below hb1) hc' HCM'.out).mono ?_
  rintro e w1 ⟨⟨b, rfl, hb⟩, rfl⟩
  obtain rfl : b = true := hb.2 HS'.out
  clear hb
  go_wp2_with fail
  refine (new_any none 0 0 [] _ (Seg.nil _ _) (by omega)).mono ?_
  rintro e w2 ⟨g, v2, rfl, hd2, hb2⟩
  have hbw2 := Below.next' hb1 hb2 hb1.size
  have hz1 := hb1.size
  have hgB := hd2.hB
  have hg2 := hd2.dc.lt
  have hs0 : scanL [] = [] := scanL_none (firstL_short (by simp))
  have hz0 : sizeL (scanL []) = 0 := by rw [hs0]; rfl
  clear hb1 hb2
  go_wp2_with fail
  refine (walOpen_whole hd2 0 hz0 (by simp) (by simp) (Tab.below ht hbw2)).mono ?_
  rw [hs0]
  rintro e w3 ⟨gl, u3, rfl, _, hlg3, hgl3, hb3⟩
  have hd3 := hd2.below hb3
  have hbw3 := Below.next' hbw2 hb3 hbw2.size
  have hng3 : ¬ DkS g v2 gl := fun hk => by have := hd2.lt gl hk; omega
  have hglB : w.heap.size ≤ gl := Nat.le_trans hbw2.size hgl3
  have hggl : g ≠ gl := by omega
  clear hd2 hbw2 hb3 hs0 hz0
  go_wp2_with fail
  go_loopw [11] (fun i w' => ∃ (j : Nat) (v : Value), j ≤ n ∧ i = .int .i64 j ∧ Dk w' w1.heap.size g v (allL (L.take j)) 0 false 0 ∧ Lg w' gl g (sizeL (L.take j) : Int) ∧ ¬ DkS g v gl ∧ Below w.heap.size w w') (fun i _ => n - (intOf i).toNat)
  case atStart => exact ⟨0, v2, by omega, rfl, hd3, hlg3, hng3, hbw3⟩
  case round =>
    clear hd3 hlg3 hng3 hbw3
    obtain ⟨j, v, hj, rfl, hdk, hlg, hng, hbw⟩ := hrel
    have hszj : sizeL (L.take j) ≤ 1360 := Nat.le_trans (sizeL_take_le L j) hszL
    by_cases hlt : j < n
    · obtain ⟨gA, oA, rfl, hel⟩ := ha.2 (by omega)
      have hl1 : j < L.length := by rw [HLN.out]; exact hlt
      obtain ⟨B1, m1, c1, x0, s0, y1, z1⟩ := hel j _ (List.getElem?_eq_getElem hl1)
      have x1 := cell_below hbw x0
      have s1 := s0.below hbw
      have HT := Lib.hid (List.take_succ_eq_append_getElem hl1)
      have h60 : m1 ≤ 60 := by rw [← s1.1]; exact HS.out.2 _ (List.getElem_mem hl1)
      generalize L[j] = a at *
      have HAL := Lib.hid s0.1
      have HSZ := Lib.hid (show (allL (L.take j)).length = sizeL (L.take j) from allL_length _)
      clear hel hl1 x0 s0
      go_wp2_with fail
      refine (walAppend_any hlg hdk true rfl B1 m1 c1 a s1 (by omega) (by omega) hng (by rw [HSZ.out]; omega) (Tab.below ht hbw)).mono ?_
      rintro e w6 ⟨rfl, v6, hd6, hl6, hon6, hm6⟩
      rw [if_pos rfl] at hd6 hl6
      rw [dn_false] at hd6
      rw [show e9 true = 0 from rfl]
      have hng6 := dks_moved hng hm6 hlg.lt
      have hbw6 := hon6.below hbw (fun k hk => by
        rcases hk with hk | hk
        · have := hdk.ge k hk; omega
        · rw [hk]; exact hglB) hbw.size
      clear hdk hlg hng hbw hon6 hm6 s1 x1
      go_wp2
      go_roundw
      case rel =>
        refine ⟨j + 1, v6, hlt, by go_num, ?_, ?_, hng6, hbw6⟩
        · rw [HT.out, allL_snoc]
          exact hd6
        · rw [HT.out, sizeL_snoc, HAL.out]
          exact hl6
      case measure => simp [intOf]; omega
    · obtain rfl : n = j := by omega
      rename World => wa
      rw [show L.take n = L from List.take_of_length_le (by rw [HLN.out]; exact Nat.le_refl _)] at hdk hlg
      have HSZ := Lib.hid (show (allL L).length = sizeL L from allL_length _)
      go_wp2_with fail
      refine (walSync_any hlg hdk true rfl).mono ?_
      rintro e w4 ⟨rfl, v4, hd4, hon4, hm4⟩
      rw [if_pos rfl, HSZ.out, dn_false] at hd4
      rw [show e9 true = 0 from rfl]
      have hng4 := dks_moved hng hm4 hlg.lt
      have hlg4 := hlg.only hon4 hng
      have hbw4 := hon4.below hbw (fun k hk => by have := hdk.ge k hk; omega) hbw.size
      clear hdk hlg hng hbw hon4 hm4
      go_wp2_with fail
      go_loopw [12] (fun i w' => ∃ (j : Nat) (v : Value), j ≤ n' ∧ i = .int .i64 j ∧ Dk w' w1.heap.size g v (allL (L ++ M.take j)) (sizeL L) false 0 ∧ Lg w' gl g (sizeL (L ++ M.take j) : Int) ∧ ¬ DkS g v gl ∧ Below w.heap.size w w') (fun i _ => n' - (intOf i).toNat)
      case atStart => exact ⟨0, v4, by omega, rfl, by simpa using hd4, by simpa using hlg4, hng4, hbw4⟩
      case round =>
        clear hd4 hlg4 hng4 hbw4
        obtain ⟨j2, v, hj2, rfl, hdk, hlg, hng, hbw⟩ := hrel
        have hszj2 : sizeL (L ++ M.take j2) ≤ 2720 := by
          rw [sizeL_append]
          have := sizeL_take_le M j2
          omega
        by_cases hlt2 : j2 < n'
        · obtain ⟨gA, oA, rfl, hel⟩ := ha'.2 (by omega)
          have hl1 : j2 < M.length := by rw [HLN'.out]; exact hlt2
          obtain ⟨B1, m1, c1, x0, s0, y1, z1⟩ := hel j2 _ (List.getElem?_eq_getElem hl1)
          have x1 := cell_below hbw x0
          have s1 := s0.below hbw
          have HT := Lib.hid (List.take_succ_eq_append_getElem hl1)
          have h60 : m1 ≤ 60 := by rw [← s1.1]; exact HS'.out.2 _ (List.getElem_mem hl1)
          generalize M[j2] = a at *
          have HAL := Lib.hid s0.1
          have HSZ2 := Lib.hid (show (allL (L ++ M.take j2)).length = sizeL (L ++ M.take j2) from allL_length _)
          clear hel hl1 x0 s0
          go_wp2_with fail
          refine (walAppend_any hlg hdk true rfl B1 m1 c1 a s1 (by omega) (by omega) hng (by rw [HSZ2.out]; omega) (Tab.below ht hbw)).mono ?_
          rintro e w6 ⟨rfl, v6, hd6, hl6, hon6, hm6⟩
          rw [if_pos rfl] at hd6 hl6
          rw [dn_false] at hd6
          have hng6 := dks_moved hng hm6 hlg.lt
          have hbw6 := hon6.below hbw (fun k hk => by
            rcases hk with hk | hk
            · have := hdk.ge k hk; omega
            · rw [hk]; exact hglB) hbw.size
          clear hdk hlg hng hbw hon6 hm6 s1 x1
          go_wp2
          go_roundw
          case rel =>
            refine ⟨j2 + 1, v6, hlt2, by go_num, ?_, ?_, hng6, hbw6⟩
            · rw [HT.out, ← List.append_assoc, allL_snoc]
              exact hd6
            · rw [HT.out, ← List.append_assoc, sizeL_snoc, HAL.out]
              exact hl6
          case measure => simp [intOf]; omega
        · obtain rfl : n' = j2 := by omega
          rename World => wb
          rw [show M.take n' = M from List.take_of_length_le (by rw [HLN'.out]; exact Nat.le_refl _)] at hdk hlg hszj2
          have HSZ2 := Lib.hid (show (allL (L ++ M)).length = sizeL (L ++ M) from allL_length _)
          have hsLM : sizeL L ≤ sizeL (L ++ M) := by rw [sizeL_append]; omega
          clear hlg hng
          go_wp2_with fail
          refine (crash_any hdk (kk : Int) (by rw [HSZ2.out]; omega)).mono ?_
          rintro e w5 ⟨rfl, v5, hd5, ho5, _⟩
          have hbw5 := ho5.below hbw (fun k hk => by rw [hk]; omega) hbw.size
          rw [HSZ2.out] at hd5
          obtain ⟨t, htt⟩ : ∃ t, sizeL L + min (kk : Int).toNat (sizeL (L ++ M) - sizeL L) = t := ⟨_, rfl⟩
          rw [htt] at hd5
          obtain ⟨m, hnm, hmn, hsc, hzm⟩ := keep_found L M t (fun q hq => by
            rcases List.mem_append.1 hq with h | h
            · exact HS.out.le q h
            · exact HS'.out.le q h) (by omega) (by omega)
          obtain ⟨hag1, hag2⟩ := again_found (L ++ M) t m (fun q hq => by
            rcases List.mem_append.1 hq with h | h
            · exact HS.out.le q h
            · exact HS'.out.le q h) hzm
          have hFL : ((L ++ M).take m).take n = L := by rw [List.take_take, Nat.min_eq_left (by rw [← HLN.out]; exact hnm), List.take_left' HLN.out]
          have hFM : ((L ++ M).take m).drop n = M.take (m - n) := by rw [List.drop_take, List.drop_left' HLN.out]
          have hFk : ((L ++ M).take m).length = m := by rw [List.length_take]; omega
          have hmn2 : m ≤ n + n' := by rw [List.length_append, HLN.out, HLN'.out] at hmn; exact hmn
          rw [HLN.out] at hnm
          obtain ⟨F, hF⟩ : ∃ F, (L ++ M).take m = F := ⟨_, rfl⟩
          rw [hF] at hsc hzm hag1 hag2 hFL hFM hFk
          obtain ⟨q, hq⟩ : ∃ q, (allL (L ++ M)).take t = q := ⟨_, rfl⟩
          rw [hq] at hd5 hsc hag1
          have hql : q.length ≤ 2720 := by rw [← hq, List.length_take, HSZ2.out]; omega
          obtain ⟨z, hz⟩ : ∃ z, sizeL F = z := ⟨_, rfl⟩
          rw [hz] at hag1 hzm
          have hzq : z ≤ q.length := by have := scanL_size q; rw [hsc, hz] at this; exact this
          have HF := Lib.hid hFL
          have HFM := Lib.hid hFM
          have HFK := Lib.hid hFk
          have HZ := Lib.hid hz
          have HSC := Lib.hid hsc
          clear hdk hbw ho5 htt hF hq hmn hsLM HSZ2
          go_wp2_with fail
          refine (walOpen_any hd5 (by omega) true rfl (Tab.below ht hbw5)).mono ?_
          rw [show okO q true = true by simp [okO], if_pos rfl, HSC.out, HZ.out, show e9 true = 0 from rfl]
          rintro e w6 ⟨p6, u6, v6, rfl, ho6, hp6, hd6, hon6, _⟩
          have hbw6 := hon6.below hbw5 (fun k hk => by have := hd5.ge k hk; omega) hbw5.size
          have hd7 : Dk w6 w1.heap.size g v6 (allL F) (if cutO q true = true then z else t) false 0 := by
            have e1 : (if cutO q true = true then q.take z else q) = allL F := by
              rw [← hag1]
              unfold cutO
              rw [HSC.out, HZ.out]
              by_cases h : z < q.length
              · simp [h]
              · simp [h]
                exact (List.take_of_length_le (by omega)).symm
            rw [← e1]
            by_cases h : z < q.length
            · rw [if_pos h] at hd6; rw [dn_false] at hd6; exact hd6
            · rw [if_neg h] at hd6; exact hd6
          clear hd5 hbw5 hon6 hp6 hd6
          obtain ⟨A14, c14, rfl, hs14, hl14, _⟩ := ho6.segk m HFK.out
          clear ho6
          have dlt : decide ((m : Int) < (n : Int)) = false := decide_eq_false (by omega)
          have dgt : decide ((n : Int) + (n' : Int) < (m : Int)) = false := decide_eq_false (by omega)
          have HZF := Lib.hid (show (allL F).length = z by rw [allL_length, HZ.out])
          have HAG := Lib.hid hag2
          have hz9 : sizeL (scanL (allL F)) = z := by rw [hag2, HZ.out]
          go_wp2_with fail
          refine (walOpen_whole hd7 z hz9 (by rw [HZF.out]; omega) (by rw [HZF.out]; exact Nat.le_refl _) (Tab.below ht hbw6)).mono ?_
          rw [HAG.out]
          rintro e w7 ⟨gl2, u7, rfl, ho7, hlg7, _, hb7⟩
          have hbw7 := Below.next' hbw6 hb7 hbw6.size
          have hd8 := hd7.below hb7
          have hs147 := hs14.below hb7
          obtain ⟨A17, c17, rfl, hs17, _, _⟩ := ho7.segk m HFK.out
          clear ho7 hb7 hbw6 hd7 hs14 hag1 hag2 hz9 hsc hzm hFL hFM hFk
          go_wp2
          refine wp_region_noPanic (wp_region_till (fun _ => True) 42 (by kernel_rfl) ?_)
          have hD := Below.drewN' (Below.refl w7.heap.size w7) 1
          have hd9 := hd8.drewN 1
          have hs149 := hs147.below hD
          have hs179 := hs17.below hD
          have hlg9 := hlg7.below hD
          have hbw9 := Below.drewN' hbw7 1
          change wpAnyT _ _ _ _ _ _ 43 _ _ (w7.drewN 1)
          clear hd8 hs147 hs17 hlg7 hbw7 hD
          generalize w7.drewN 1 = w9 at *
          obtain ⟨dm, hdm⟩ : ∃ dm, m - n = dm := ⟨_, rfl⟩
          have HDM := Lib.hid hdm
          have hsub : (m : Int) - (n : Int) = (dm : Int) := by omega
          have hdc : dm ≤ c' := by omega
          have hwd : IntKind.i64.wrap (dm : Int) = (dm : Int) := IntWalk.i64_in _ (by omega)
          have hnc14 : n ≤ c14 := by omega
          have hLn : SegL w9 A14 n L := by
            have := hs149.upto n hnm
            rw [HF.out] at this
            exact this
          have hAL := ha.below hbw9
          have hR : SegL w9 (if c14 = n then A14 else Option.map (fun x => x.add n) A14) dm (M.take dm) := by
            have := hs149.fromA n c14 hnm hl14
            rw [HFM.out, hdm] at this
            exact this
          have hAM : SegL w9 A' dm (M.take dm) := (ha'.below hbw9).upto dm (by omega)
          obtain ⟨R, hRR⟩ : ∃ R, (if c14 = n then A14 else Option.map (fun x => x.add n) A14) = R := ⟨_, rfl⟩
          rw [hRR] at hR
          have hsz32 : (⟨(sha []).toArray⟩ : ByteArray).size = 32 := shaSize []
          refine wpAnyT_take (i := 0) (v := .slice A14 m c14) rfl (by kernel_rfl) (fun _ _ _ h => h) trivial (Or.inl ⟨rfl, fun W' hW => by go_simp⟩) ?_
          refine wpAnyT_take (i := 1) (v := .slice A n c) rfl (by kernel_rfl) (fun _ _ _ h => h) trivial (Or.inl ⟨rfl, fun W' hW => by go_simp⟩) ?_
          refine wpAnyT_take (i := 2) (v := .int .i64 (n : Int)) rfl (by kernel_rfl) (fun _ _ _ h => h) trivial (Or.inl ⟨rfl, fun W' hW => by go_simp⟩) ?_
          refine wpAnyT_take (i := 3) (v := .slice A14 n c14) rfl (by kernel_rfl) (fun _ _ _ h => h) trivial (Or.inl ⟨rfl, fun W' hW => by go_simp⟩) ?_
          refine wpAnyT_take (i := 4) (v := .slice A n c) rfl (by kernel_rfl) (fun _ _ _ h => h) trivial (Or.inl ⟨rfl, fun W' hW => by go_simp⟩) ?_
          refine wpAnyT_step 5 rfl (by decide +kernel) ?_
          go_wp2_with fail
          refine (same_any A14 A n n c14 c L L _ hLn hAL (by omega)).mono ?_
          rintro e w10 ⟨rfl, u2, rfl⟩
          rw [show (L == L) = true by simp]
          have hD := Below.drewN' (Below.refl w9.heap.size w9) u2
          have hd10 := hd9.drewN u2
          have hs1410 := hs149.below hD
          have hs1710 := hs179.below hD
          have hlg10 := hlg9.below hD
          have hbw10 := Below.drewN' hbw9 u2
          have hR10 := hR.below hD
          have hAM10 := hAM.below hD
          clear hd9 hs149 hs179 hlg9 hbw9 hR hAM hLn hAL hD
          generalize w9.drewN u2 = w10 at *
          go_wp2_with fail
          refine ⟨.inr trivial, ?_⟩
          refine wpAnyT_take (i := 6) (v := .bool true) rfl (by kernel_rfl) (fun _ _ _ h => h) trivial (Or.inl ⟨by kernel_rfl, fun W' hW => by go_simp⟩) ?_
          refine wpAnyT_take (i := 7) (v := .slice A14 m c14) rfl (by kernel_rfl) (fun _ _ _ h => h) trivial (Or.inl ⟨by kernel_rfl, fun W' hW => by go_simp⟩) ?_
          refine wpAnyT_take (i := 8) (v := .slice A n c) rfl (by kernel_rfl) (fun _ _ _ h => h) trivial (Or.inl ⟨by kernel_rfl, fun W' hW => by go_simp⟩) ?_
          refine wpAnyT_take (i := 9) (v := .int .i64 (n : Int)) rfl (by kernel_rfl) (fun _ _ _ h => h) trivial (Or.inl ⟨by kernel_rfl, fun W' hW => by go_simp⟩) ?_
          refine wpAnyT_take (i := 10) (v := .slice R dm (c14 - n)) rfl (by kernel_rfl) (fun _ _ _ h => h) trivial (Or.inl ⟨by kernel_rfl, fun W' hW => by first | (go_simp; done) | (go_simp; rw [← hRR]; split <;> simp_all)⟩) ?_
          refine wpAnyT_take (i := 11) (v := .slice A' n' c') rfl (by kernel_rfl) (fun _ _ _ h => h) trivial (Or.inl ⟨by kernel_rfl, fun W' hW => by go_simp⟩) ?_
          refine wpAnyT_take (i := 12) (v := .slice A14 m c14) rfl (by kernel_rfl) (fun _ _ _ h => h) trivial (Or.inl ⟨by kernel_rfl, fun W' hW => by go_simp⟩) ?_
          refine wpAnyT_take (i := 13) (v := .int .i64 (m : Int)) rfl (by kernel_rfl) (fun _ _ _ h => h) trivial (Or.inl ⟨by kernel_rfl, fun W' hW => by go_simp⟩) ?_
          refine wpAnyT_take (i := 14) (v := .slice A n c) rfl (by kernel_rfl) (fun _ _ _ h => h) trivial (Or.inl ⟨by kernel_rfl, fun W' hW => by go_simp⟩) ?_
          refine wpAnyT_take (i := 15) (v := .int .i64 (n : Int)) rfl (by kernel_rfl) (fun _ _ _ h => h) trivial (Or.inl ⟨by kernel_rfl, fun W' hW => by go_simp⟩) ?_
          refine wpAnyT_take (i := 16) (v := .int .i64 (dm : Int)) rfl (by kernel_rfl) (fun _ _ _ h => h) trivial (Or.inl ⟨by kernel_rfl, fun W' hW => by go_simp⟩) ?_
          refine wpAnyT_take (i := 17) (v := .slice A' dm c') rfl (by kernel_rfl) (fun _ _ _ h => h) trivial (Or.inl ⟨by kernel_rfl, fun W' hW => by go_simp⟩) ?_
          refine wpAnyT_stepg 18 rfl (by decide +kernel) (by kernel_rfl) ?_
          go_wp2_with fail
          refine (same_any R A' dm dm _ c' (M.take dm) (M.take dm) _ hR10 hAM10 (by omega)).mono ?_
          rintro e w11 ⟨rfl, u3, rfl⟩
          rw [show (M.take dm == M.take dm) = true by simp]
          have hD := Below.drewN' (Below.refl w10.heap.size w10) u3
          have hd11 := hd10.drewN u3
          have hs1411 := hs1410.below hD
          have hs1711 := hs1710.below hD
          have hlg11 := hlg10.below hD
          have hbw11 := Below.drewN' hbw10 u3
          clear hd10 hs1410 hs1710 hlg10 hbw10 hR10 hAM10 hD
          generalize w10.drewN u3 = w11 at *
          go_wp2_with fail
          refine ⟨.inr trivial, ?_⟩
          refine wpAnyT_take (i := 19) (v := .bool true) rfl (by kernel_rfl) (fun _ _ _ h => h) trivial (Or.inl ⟨by kernel_rfl, fun W' hW => by go_simp⟩) ?_
          refine wpAnyT_take (i := 20) (v := .bool true) rfl (by kernel_rfl) (fun _ _ _ h => h) trivial (Or.inl ⟨by kernel_rfl, fun W' hW => by go_simp⟩) ?_
          refine wpAnyT_take (i := 21) (v := .int .i64 0) rfl (by kernel_rfl) (fun _ _ _ h => h) trivial (Or.inl ⟨by kernel_rfl, fun W' hW => by go_simp⟩) ?_
          refine wpAnyT_take (i := 22) (v := .bool true) rfl (by kernel_rfl) (fun _ _ _ h => h) trivial (Or.inl ⟨by kernel_rfl, fun W' hW => by go_simp⟩) ?_
          refine wpAnyT_take (i := 23) (v := .bool true) rfl (by kernel_rfl) (fun _ _ _ h => h) trivial (Or.inl ⟨by kernel_rfl, fun W' hW => by go_simp⟩) ?_
          refine wpAnyT_take (i := 24) (v := .bool true) rfl (by kernel_rfl) (fun _ _ _ h => h) trivial (Or.inl ⟨by kernel_rfl, fun W' hW => by go_simp⟩) ?_
          refine wpAnyT_take (i := 25) (v := .slice A17 m c17) rfl (by kernel_rfl) (fun _ _ _ h => h) trivial (Or.inl ⟨by kernel_rfl, fun W' hW => by go_simp⟩) ?_
          refine wpAnyT_take (i := 26) (v := .slice A14 m c14) rfl (by kernel_rfl) (fun _ _ _ h => h) trivial (Or.inl ⟨by kernel_rfl, fun W' hW => by go_simp⟩) ?_
          refine wpAnyT_stepg 27 rfl (by decide +kernel) (by kernel_rfl) ?_
          go_wp2_with fail
          refine (same_any A17 A14 m m c17 c14 F F _ hs1711 hs1411 (by omega)).mono ?_
          rintro e w12 ⟨rfl, u4, rfl⟩
          rw [show (F == F) = true by simp]
          have hD := Below.drewN' (Below.refl w11.heap.size w11) u4
          have hd12 := hd11.drewN u4
          have hlg12 := hlg11.below hD
          have hbw12 := Below.drewN' hbw11 u4
          clear hd11 hs1411 hs1711 hlg11 hbw11 hD
          generalize w11.drewN u4 = w12 at *
          go_wp2_with fail
          refine ⟨.inr trivial, ?_⟩
          refine wpAnyT_take (i := 28) (v := .bool true) rfl (by kernel_rfl) (fun _ _ _ h => h) trivial (Or.inl ⟨by kernel_rfl, fun W' hW => by go_simp⟩) ?_
          refine wpAnyT_take (i := 29) (v := .bool true) rfl (by kernel_rfl) (fun _ _ _ h => h) trivial (Or.inl ⟨by kernel_rfl, fun W' hW => by go_simp⟩) ?_
          refine wpAnyT_take (i := 30) (v := .pointer (some ⟨gl2, 0, none⟩)) rfl (by kernel_rfl) (fun _ _ _ h => h) trivial (Or.inl ⟨by kernel_rfl, fun W' hW => by go_simp⟩) ?_
          refine wpAnyT_take (i := 32) (v := .pointer (some ⟨g, 0, none⟩)) rfl (by kernel_rfl) (fun _ _ _ h => h) trivial (Or.inl ⟨by kernel_rfl, fun W' hW => by go_simp⟩) ?_
          refine wpAnyT_stepg 31 rfl (by decide +kernel) (by kernel_rfl) ?_
          go_wp2_with fail
          refine (walSize_any hlg12).mono ?_
          rintro e w13 ⟨rfl, rfl⟩
          go_wp2_with fail
          refine ⟨.inr trivial, ?_⟩
          refine wpAnyT_stepg 33 rfl (by decide +kernel) (by kernel_rfl) ?_
          go_wp2_with fail
          refine (dread_any hd12 (by rw [HZF.out]; omega)).mono ?_
          rintro e w14 ⟨v14, rfl, ho14, hb14⟩
          obtain ⟨A18, c18, rfl, _, _, _⟩ := ho14.formsk z HZF.out
          have hbw14 := Below.next' hbw12 hb14 hbw12.size
          clear hd12 hlg12 hbw12 ho14 hb14
          go_wp2_with fail
          refine ⟨.inr trivial, ?_⟩
          refine wpAnyT_take (i := 34) (v := .int .i64 (z : Int)) rfl (by kernel_rfl) (fun _ _ _ h => h) trivial (Or.inl ⟨by kernel_rfl, fun W' hW => by go_simp⟩) ?_
          refine wpAnyT_take (i := 35) (v := .bool true) rfl (by kernel_rfl) (fun _ _ _ h => h) trivial (Or.inl ⟨by kernel_rfl, fun W' hW => by go_simp⟩) ?_
          refine wpAnyT_take (i := 36) (v := .bool true) rfl (by kernel_rfl) (fun _ _ _ h => h) trivial (Or.inl ⟨by kernel_rfl, fun W' hW => by go_simp⟩) ?_
          refine wpAnyT_take (i := 37) (v := .bool true) rfl (by kernel_rfl) (fun _ _ _ h => h) trivial (Or.inl ⟨by kernel_rfl, fun W' hW => by go_simp⟩) ?_
          refine wpAnyT_stepg 38 rfl (by decide +kernel) (by kernel_rfl) ?_
          go_wp2_with fail
          refine (rsum_any none 0 0 [] _ (Seg.nil _ _) (by omega)).mono ?_
          rintro e w15 ⟨rfl, hb15⟩
          have hbw15 := Below.next' hbw14 hb15 hbw14.size
          generalize (⟨(sha []).toArray⟩ : ByteArray) = Z at *
          clear hbw14 hb15
          go_wp2_with fail
          refine ⟨.inr trivial, ?_⟩
          refine wpAnyT_take (i := 39) (v := .int .i64 32) rfl (by kernel_rfl) (fun _ _ _ h => h) trivial (Or.inl ⟨by kernel_rfl, fun W' hW => by go_simp⟩) ?_
          refine wpAnyT_take (i := 40) (v := .bool true) rfl (by kernel_rfl) (fun _ _ _ h => h) trivial (Or.inl ⟨by kernel_rfl, fun W' hW => by go_simp⟩) ?_
          refine wpAnyT_take (i := 41) (v := .bool true) rfl (by kernel_rfl) (fun _ _ _ h => h) trivial (Or.inl ⟨by kernel_rfl, fun W' hW => by go_simp⟩) ?_
          refine wpAnyT_step 42 rfl (by decide +kernel) ?_
          go_wp2_with fail
          refine ⟨.inl trivial, ?_⟩
          refine wpAnyT_done (by decide +kernel) (NoPanic.normal ?_)
          clear HF HFM HFK HZ HSC HZF HAG HDM HS HS' HLN HLN' HCM HCM' ha ha' ht
          go_wp2
          go_ret
          exact ⟨rfl, hbw15⟩

set_option maxRecDepth 8000 in
set_option maxHeartbeats 4000000 in
theorem walKeeps_long (A : Option Addr) (n c : Nat) (L : List (List UInt8)) (A' : Option Addr) (n' c' : Nat) (M : List (List UInt8)) (x : Int) (w : World) (ha : SegL w A n L) (hc : n ≤ c) (hcm : c ≤ maxLen) (ha' : SegL w A' n' M) (hc' : n' ≤ c') (hcm' : c' ≤ maxLen) (hS : ¬ (Small L ∧ Small M)) (ht : Tab w) :
    Calls Tryd.prog 7 #[.slice A n c, .slice A' n' c', .int .u16 x] w fun e w' => e = .returned (.bool true) ∧ Below w.heap.size w w' := by
  go_enter Tryd.func7, Tryd.ntmps7
  go_wp2_with fail
  refine (both_any _ ht).mono ?_
  rintro e w1 ⟨rfl, hb1⟩
  go_wp2_with fail
  refine (small_any A n c L _ (ha.below hb1) hc hcm).mono ?_
  rintro e w0 ⟨⟨b, rfl, hb⟩, rfl⟩
  rcases b with _ | _
  · clear hb
    go_wp2_with fail
    refine (both_any _ (Tab.below ht hb1)).mono ?_
    rintro e w2 ⟨rfl, hb2⟩
    go_wp2
    go_ret
    exact ⟨rfl, Below.next' hb1 hb2 hb1.size⟩
  · have h1 := hb.1 rfl
    clear hb
    go_wp2_with fail
    refine (small_any A' n' c' M _ (ha'.below hb1) hc' hcm').mono ?_
    rintro e w0 ⟨⟨b, rfl, hb⟩, rfl⟩
    obtain rfl : b = false := by
      rcases b with _ | _
      · rfl
      · exact absurd ⟨h1, hb.1 rfl⟩ hS
    clear hb
    go_wp2_with fail
    refine (both_any _ (Tab.below ht hb1)).mono ?_
    rintro e w2 ⟨rfl, hb2⟩
    go_wp2
    go_ret
    exact ⟨rfl, Below.next' hb1 hb2 hb1.size⟩

theorem walKeeps_walk (A : Option Addr) (n c : Nat) (L : List (List UInt8)) (A' : Option Addr) (n' c' : Nat) (M : List (List UInt8)) (x : Int) (w : World) (ha : SegL w A n L) (hc : n ≤ c) (hcm : c ≤ maxLen) (ha' : SegL w A' n' M) (hc' : n' ≤ c') (hcm' : c' ≤ maxLen) (hx : (Lit.int .u16 x).wf = true) (ht : Tab w) :
    Calls Tryd.prog 7 #[.slice A n c, .slice A' n' c', .int .u16 x] w fun e w' => e = .returned (.bool true) ∧ Below w.heap.size w w' := by
  by_cases hS : Small L ∧ Small M
  · obtain ⟨k, rfl⟩ := Int.eq_ofNat_of_zero_le (bounds_u16 hx).1
    exact walKeeps_core A n c L A' n' c' M k _ rfl w ha hc hcm ha' hc' hcm' hS.1 hS.2 ht
  · exact walKeeps_long A n c L A' n' c' M x w ha hc hcm ha' hc' hcm' hS ht

end Go.Proofs.YtkmcnkonkalfkaaDoor
