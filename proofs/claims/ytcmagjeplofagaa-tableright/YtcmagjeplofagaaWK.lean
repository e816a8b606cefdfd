/-
  The walk of the document's Key.
-/
import Derived.Test.YtcmagjeplofagaaWV
import Derived.Laws.AppendOwn
namespace Go.Proofs.Ytcmagjeplofagaa
open Go.RowKit

theorem far_of {w : World} {base : Nat} {e : TypeId} {v : Value} {l : List UInt8} (ho : Own w base e v l) : some w.heap.size ≠ v.ownBlock := fun h => by
  have := (ho.lt _ h.symm).2
  omega

theorem wrapKey (m : Int) : IntKind.u64.wrap (IntKind.u64.wrap m + 9223372036854775808) = (u64N (m + 9223372036854775808) : Int) := by
  rw [u64N_eq, u64N_eq]
  unfold u64N
  omega

set_option maxHeartbeats 2000000 in
theorem rkey_any (A : Option Addr) (n c : Nat) (l : List V) (w : World) (ha : SegV w A n l) (hn : n ≤ 1000) (hok : ∀ v ∈ l, v.Ok) :
    Calls Try.prog 46 #[.slice A n c] w fun e w' => ∃ v, e = .returned v ∧ Own w' w.heap.size 5 v (keyOf l) ∧ Below w.heap.size w w' := by
  go_enter Try.func46, Try.ntmps46
  go_wp2
  go_loopw [3, 4, 5, 6] (fun p i _ _ w' => ∃ (k : Nat) (d : List UInt8), k ≤ n ∧ i = .int .i64 k ∧ d = keyOf (l.take k) ∧ Own w' w.heap.size 5 p d ∧ Below w.heap.size w w') (fun _ i _ _ _ => n - (intOf i).toNat)
  case atStart => exact ⟨0, [], Nat.zero_le _, rfl, rfl, Own.nil _ _ _, Below.refl _ _⟩
  case round =>
    rename World => wo
    obtain ⟨k, d, hk, rfl, hd, hod, hbw⟩ := hrel
    have hdl : d.length ≤ 500 * k := by
      rw [hd]
      have := keyOf_len (l.take k) fun v hv => hok v (List.mem_of_mem_take hv)
      rw [List.length_take] at this
      exact Nat.le_trans this (Nat.mul_le_mul_left _ (Nat.min_le_left _ _))
    have HD := Lib.hid hd
    clear hd
    have hfar := far_of hod
    have hwo := hbw.size
    obtain ⟨A', c', rfl, hs', hlc', hcm'⟩ := hod.forms
    by_cases hlt : k < n
    · obtain ⟨g, o, rfl, h0, h1, h2⟩ := (ha.below hbw).at_ hlt
      have hm : l[k]'(by rw [ha.1]; exact hlt) ∈ l := List.getElem_mem _
      have hvo := hok _ hm
      have hts : keyOf (l.take (k + 1)) = keyOf (l.take k) ++ keyOne (l[k]'(by rw [ha.1]; exact hlt)) := by
        rw [List.take_succ_eq_append_getElem (by rw [ha.1]; exact hlt), keyOf_append]
        simp [keyOf]
      have HTS := Lib.hid hts
      clear hts hm
      generalize l[k]'(by rw [ha.1]; exact hlt) = x at *
      have hg : g < wo.heap.size := World.block_lt_of_cell? wo _ h0
      rcases hvo.cases with rfl | ⟨m, rfl, hm1, hm2⟩ | ⟨s, rfl, hsz⟩
      · dsimp only [V.none] at h0 h1 h2
        go_wp2_with (first
          | (at_builtin
             refine wpList_append_seg _ rfl (.tmp 49) (.tmp 50) _ _ bt rfl w.heap.size _ d rfl ((hod.alloc _).alloc _) _ 1 1 [1] rfl (Seg.one' _ _ _ _ 1 (by simp) rfl) (by omega) (by simp; omega) ?_
             intro v2 w2 hown2 hg2 hat2))
        go_roundw
        case rel =>
          refine ⟨k + 1, d ++ [1], hlt, by go_num, by rw [HTS.out, HD.out]; rfl, hown2, ?_⟩
          exact below_grown ((hbw.alloc hbw.size _).alloc (by simp; omega) _) ((hod.alloc _).alloc _) hg2 (Nat.le_refl _) (by simp; omega)
        case measure => simp [intOf]; omega
      · have hc1 : ((wo.alloc (.cells #[.int .u8 1, .int .i64 m, .string ⟨#[]⟩] 41)).alloc (.cells #[.int .u8 2] 5)).cell? ⟨wo.heap.size, 1, none⟩ = some (.int .i64 m) := by
          rw [World.cell?_alloc_lt _ _ _ (by simp)]; simp
        go_wp2_with (first
          | (at_builtin
             refine wpList_append_seg _ rfl (.tmp 54) (.tmp 55) _ _ bt rfl w.heap.size _ d rfl ((hod.alloc _).alloc _) _ 1 1 [2] rfl (Seg.one' _ _ _ _ 2 (by simp) rfl) (by omega) (by simp; omega) ?_
             intro v2 w2 hown2 hg2 hat2
             have hq2 := hg2.cell hc1 hfar
             have hbw2 : Below w.heap.size w w2 := below_grown ((hbw.alloc hbw.size _).alloc (by simp; omega) _) ((hod.alloc _).alloc _) hg2 (Nat.le_refl _) (by simp; omega)
             obtain ⟨d2, hd2⟩ : ∃ d2, d ++ [2] = d2 := ⟨_, rfl⟩
             have hl2 : d2.length ≤ d.length + 1 := by rw [← hd2]; simp
             rw [hd2] at hown2
             have HD2 := Lib.hid hd2
             clear hd2
             obtain ⟨A2, c2, rfl, hs2, hlc2, hcm2⟩ := hown2.forms))
        refine (num_call _ _ _ (by rw [wrapKey]; omega) (by omega) (by omega)).mono ?_
        rintro e w3 ⟨r3, rfl, ho3, hb3⟩
        rw [wrapKey] at ho3
        have hK : high (u64N (m + 9223372036854775808) : Int).toNat (8 : Int).toNat = keyNum m := rfl
        rw [hK] at ho3
        have hkl : (keyNum m).length = 8 := high_length _ _
        have hbw3 : Below w.heap.size w w3 := Below.next' hbw2 hb3 hbw2.size
        have hown3 := hown2.below hb3
        have hsz3 := hbw3.size
        obtain ⟨kn, hkn⟩ : ∃ kn, keyNum m = kn := ⟨_, rfl⟩
        rw [hkn] at ho3 hkl
        have HKN := Lib.hid hkn
        have HKL := Lib.hid hkl
        clear hkn hK hkl
        obtain ⟨A3, c3, rfl, hs3, hlc3, hcm3⟩ := ho3.forms
        clear ho3 hb3 hown2 hg2 hat2 hq2 hc1
        go_wp2_with (first
          | (at_builtin
             refine wpList_append_seg _ rfl (.tmp 57) (.tmp 62) _ _ bt rfl w.heap.size _ d2 rfl hown3 _ _ _ kn rfl hs3 (by have := HKL.out; omega) (by omega) ?_
             intro v4 w4 hown4 hg4 hat4))
        go_roundw
        case rel =>
          refine ⟨k + 1, d2 ++ kn, hlt, by go_num, ?_, hown4, below_grown hbw3 hown3 hg4 (Nat.le_refl _) hbw3.size⟩
          rw [HTS.out, ← HD.out, ← HD2.out, ← HKN.out, List.append_assoc]
          rfl
        case measure => simp [intOf]; omega
      · have hc2 : (wo.alloc (.cells #[.int .u8 2, .int .i64 0, .string s] 41)).cell? ⟨wo.heap.size, 2, none⟩ = some (.string s) := by simp
        go_wp2_with (first
          | (at_builtin
             refine wpList_append_seg _ rfl (.tmp 19) (.tmp 20) _ _ bt rfl w.heap.size _ d rfl ((hod.alloc _).alloc _) _ 1 1 [3] rfl (Seg.one' _ _ _ _ 3 (by simp) rfl) (by omega) (by simp; omega) ?_
             intro v1 w1 hown1 hg1 hat1
             have hgr1 : Grew (wo.alloc (.cells #[.int .u8 2, .int .i64 0, .string s] 41)) w1 (.slice A' d.length c') v1 := ((Grew.refl _ _).alloc _).trans (Grew.of hg1 hat1)
             obtain ⟨d1, hd1⟩ : ∃ d1, d ++ [3] = d1 := ⟨_, rfl⟩
             rw [hd1] at hown1
             have HD1 := Lib.hid hd1
             clear hd1
             obtain ⟨A1, c1, rfl, hs1, hlc1, hcm1⟩ := hown1.forms))
        go_loopw [3, 6] (fun p i w' => ∃ (k : Nat) (d' : List UInt8), k ≤ s.size ∧ i = .int .i64 k ∧ d' = d ++ 3 :: keyText (s.data.toList.take k) ∧ Own w' w.heap.size 5 p d' ∧ Grew (wo.alloc (.cells #[.int .u8 2, .int .i64 0, .string s] 41)) w' (.slice A' d.length c') p) (fun _ i _ => s.size - (intOf i).toNat)
        case atStart => exact ⟨0, d1, Nat.zero_le _, rfl, HD1.out.symm, hown1, hgr1⟩
        case round =>
          obtain ⟨j, d', hj, rfl, hd', hod', hgr⟩ := hrel
          have hdl' : d'.length ≤ d.length + 1 + 2 * j := by
            have := keyText_len (s.data.toList.take j)
            rw [List.length_take] at this
            rw [hd']
            simp
            omega
          have HD' := Lib.hid hd'
          clear hd'
          have hq := hgr.1.cell hc2 hfar
          have hqs : wo.heap.size < wr.heap.size := World.block_lt_of_cell? wr _ hq
          obtain ⟨A3, c3, rfl, hs3, hlc3, hcm3⟩ := hod'.forms
          have hfar' : some wo.heap.size ≠ (Value.slice A3 d'.length c3).ownBlock := by
            rcases hgr.2 with e | ⟨q, e, hq'⟩
            · rw [e]; exact hfar
            · rw [e]; intro h; injection h with h; simp at hq'; omega
          by_cases hjs : j < s.size
          · have hts : s.data.toList.take (j + 1) = s.data.toList.take j ++ [s[j]] := by
              rw [List.take_succ_eq_append_getElem (by simpa using hjs)]; rfl
            have HTT := Lib.hid hts
            clear hts
            by_cases h00 : s[j] = 0
            · have hz : ((s[j].toNat : Int) == 0) = true := by rw [h00]; rfl
              have H0 := Lib.hid h00
              clear h00
              go_wp2_with (first
                | (at_builtin
                   refine wpList_append_seg _ rfl (.tmp 29) (.tmp 34) _ _ bt rfl w.heap.size _ d' rfl (hod'.alloc _) _ 1 1 [s[j]] rfl (Seg.one _ _ _ _ rfl) (by omega) (by simp; omega) ?_
                   intro v2 w2 hown2 hg2 hat2
                   have hgr2 : Grew wr w2 (.slice A3 d'.length c3) v2 := ((Grew.refl _ _).alloc _).trans (Grew.of hg2 hat2)
                   have hq2 := hgr2.1.cell hq hfar'
                   obtain ⟨d2, hd2⟩ : ∃ d2, d' ++ [s[j]] = d2 := ⟨_, rfl⟩
                   have hl2 : d2.length ≤ d'.length + 1 := by rw [← hd2]; simp
                   rw [hd2] at hown2
                   have HD2 := Lib.hid hd2
                   clear hd2
                   obtain ⟨A2, c2, rfl, hs2, hlc2, hcm2⟩ := hown2.forms)
                | (at_builtin
                   refine wpList_append_seg _ rfl (.tmp 41) (.tmp 42) _ _ bt rfl w.heap.size _ d2 rfl (hown2.alloc _) _ 1 1 [255] rfl (Seg.one _ _ _ 255 rfl) (by omega) (by have := hgr2.1.size; simp; omega) ?_
                   intro v3 w3 hown3 hg3 hat3
                   have hgr3 : Grew w2 w3 (.slice A2 d2.length c2) v3 := ((Grew.refl _ _).alloc _).trans (Grew.of hg3 hat3)))
              go_roundw
              case rel =>
                refine ⟨j + 1, d2 ++ [255], hjs, by go_num, ?_, hown3, hgr.trans (hgr2.trans hgr3)⟩
                rw [← HD2.out, HD'.out, HTT.out, keyText_append, H0.out]
                simp [keyText]
              case measure => simp [intOf]; omega
            · have hz : ((s[j].toNat : Int) == 0) = false := by
                rw [beq_eq_false_iff_ne]; intro h; exact h00 (UInt8.toNat_inj.1 (by simpa using h))
              go_wp2_with (first
                | (at_builtin
                   refine wpList_append_seg _ rfl (.tmp 29) (.tmp 34) _ _ bt rfl w.heap.size _ d' rfl (hod'.alloc _) _ 1 1 [s[j]] rfl (Seg.one _ _ _ _ rfl) (by omega) (by simp; omega) ?_
                   intro v2 w2 hown2 hg2 hat2
                   have hgr2 : Grew wr w2 (.slice A3 d'.length c3) v2 := ((Grew.refl _ _).alloc _).trans (Grew.of hg2 hat2)
                   have hq2 := hgr2.1.cell hq hfar'
                   obtain ⟨d2, hd2⟩ : ∃ d2, d' ++ [s[j]] = d2 := ⟨_, rfl⟩
                   rw [hd2] at hown2
                   have HD2 := Lib.hid hd2
                   clear hd2
                   obtain ⟨A2, c2, rfl, hs2, hlc2, hcm2⟩ := hown2.forms))
              go_roundw
              case rel =>
                refine ⟨j + 1, d2, hjs, by go_num, ?_, hown2, hgr.trans hgr2⟩
                rw [← HD2.out, HD'.out, HTT.out, keyText_append]
                simp [keyText, h00]
              case measure => simp [intOf]; omega
          · have hk' : s.data.toList.take j = s.data.toList := List.take_of_length_le (by simp; omega)
            have HK := Lib.hid hk'
            clear hk'
            have hbwr : Below w.heap.size w wr := hgr.below (hbw.alloc hbw.size _) (hod.alloc _) (Nat.le_refl _) (by simp; omega)
            go_wp2_with (first
              | (at_builtin
                 refine wpList_append_seg _ rfl (.tmp 44) (.tmp 45) _ _ bt rfl w.heap.size _ d' rfl (hod'.alloc _) _ 2 2 [0, 1] rfl (Seg.two _ _ _ _ 0 1 rfl rfl) (by omega) (by simp; omega) ?_
                 intro v2 w2 hown2 hg2 hat2))
            go_roundw
            case rel =>
              refine ⟨k + 1, d' ++ [0, 1], hlt, by go_num, ?_, hown2, below_grown (hbwr.alloc hbwr.size _) (hod'.alloc _) hg2 (Nat.le_refl _) (by have := hbwr.size; simp; omega)⟩
              rw [HTS.out, ← HD.out, HD'.out, HK.out]
              simp [keyOne]
            case measure => simp [intOf]; omega
    · go_wp2
      go_ret
      refine ⟨_, rfl, ?_, hbw⟩
      have hk' : l.take k = l := List.take_of_length_le (by rw [ha.1]; omega)
      rw [HD.out, hk'] at hod
      rw [HD.out, hk']
      exact hod

end Go.Proofs.Ytcmagjeplofagaa
