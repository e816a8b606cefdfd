/-
  The document's Encode of proofs.
-/
import Derived.Test.YtaanaoimnecenaaDoorPF9
namespace Go.Proofs.YtaanaoimnecenaaDoor
open Go.RowKit

set_option maxRecDepth 4000 in
set_option maxHeartbeats 8000000 in
theorem rpencode_any (v : Value) (p : Pf) (w : World) (hv : PfAt w v p) (h1 : p.side.length ≤ 300) (h2 : ∀ s ∈ p.side, s.size ≤ 10000) (h3 : p.key.size ≤ 10000) (h4 : p.row.length ≤ 10000) (h5 : p.k < 256) :
    Calls Tryd.prog 49 #[v] w fun e w' => ∃ r, e = .returned r ∧ Own w' w.heap.size 5 r (penc p) ∧ Below w.heap.size w w' := by
  obtain ⟨A, c, B, d, rfl, a1, a2, a3, a4, a5, a6⟩ := hv
  have HEN := Lib.hid (show penc p = high p.side.length 2 ++ cat p.side ++ [UInt8.ofNat p.k] ++ pend2 p from rfl)
  have hcl := cat_len p.side h2
  obtain ⟨ds, k, key, row⟩ := p
  dsimp only at *
  have hkl : key.data.toList.length = key.size := by simp
  have HKL := Lib.hid hkl
  clear hkl
  obtain ⟨n, hn1⟩ : ∃ n, ds.length = n := ⟨_, rfl⟩
  obtain ⟨m, hm1⟩ : ∃ m, row.length = m := ⟨_, rfl⟩
  rw [hn1] at a1 a3 h1 hcl HEN
  rw [hm1] at a2 a5 h4
  rw [hn1, hm1]
  have HN := Lib.hid hn1
  have HM := Lib.hid hm1
  have hb1 := Bx.new w (.slice A n c) (.int .u8 (k : Int)) (.string key) (.slice B m d) 67
  have hbel := (Below.refl w.heap.size w).alloc (Nat.le_refl _) (.cells #[.slice A n c, .int .u8 (k : Int), .string key, .slice B m d] 67)
  have hs1 := a1.alloc (.cells #[.slice A n c, .int .u8 (k : Int), .string key, .slice B m d] 67)
  have hr1 := a2.alloc (.cells #[.slice A n c, .int .u8 (k : Int), .string key, .slice B m d] 67)
  have hz1 : (w.alloc (.cells #[.slice A n c, .int .u8 (k : Int), .string key, .slice B m d] 67)).heap.size = w.heap.size + 1 := by simp
  have HKU := Lib.hid (show ((k : Nat) : Int) = ((UInt8.ofNat k).toNat : Int) by rw [UInt8.toNat_ofNat', Nat.mod_eq_of_lt h5])
  have hBlt : 0 < m → ∀ a, B = some a → a.block < w.heap.size := a2.lt
  clear hn1 hm1 a1 a2
  have hwr : IntKind.u64.wrap (n : Int) = (n : Int) := IntWalk.u64_in _ (by omega)
  go_enter Tryd.func49, Tryd.ntmps49
  go_wp2_with fail
  generalize w.alloc (.cells #[.slice A n c, .int .u8 (k : Int), .string key, .slice B m d] 67) = w0 at *
  obtain ⟨b0, hb0⟩ : ∃ b0, w.heap.size = b0 := ⟨_, rfl⟩
  rw [hb0] at hb1 hz1 hBlt ⊢
  have HB0 := Lib.hid hb0
  clear hb0
  refine (num_call _ _ _ (by omega) (by omega) (by omega)).mono ?_
  rintro _ w1 ⟨v1, rfl, ho1, hbw1⟩
  have HHL := Lib.hid (show (high ((n : Nat) : Int).toNat (2 : Int).toNat).length = 2 by rw [high_length]; rfl)
  have HEN2 := Lib.hid (show penc ⟨ds, k, key, row⟩ = high ((n : Nat) : Int).toNat (2 : Int).toNat ++ cat ds ++ [UInt8.ofNat k] ++ pend2 ⟨ds, k, key, row⟩ from HEN.out)
  clear HEN
  generalize high ((n : Nat) : Int).toNat (2 : Int).toNat = hd at *
  have HB1 := Lib.hid hb1
  obtain ⟨z0, z1, z2, z3, zf⟩ := hb1.below hbw1
  clear zf
  go_wp2_with fail
  clear z0 z1 z2 z3
  go_loopw [3, 4] (fun q i w' => ∃ (j : Nat) (l : List UInt8), j ≤ n ∧ i = .int .i64 j ∧ l = hd ++ cat (ds.take j) ∧ Own w' w0.heap.size 5 q l ∧ Below w0.heap.size w0 w') (fun _ i _ => n - (intOf i).toNat)
  case atStart => exact ⟨0, hd, by omega, rfl, by simp [cat], ho1, hbw1⟩
  case round =>
    clear ho1 hbw1 hb1
    obtain ⟨j, l, hj, rfl, hl, hol, hbw⟩ := hrel
    obtain ⟨x0, x1, x2, x3, xf⟩ := HB1.out.below hbw
    clear xf
    have hzz := hbw.size
    by_cases hlt : j < n
    · have hjd : j < ds.length := by rw [HN.out]; exact hlt
      obtain ⟨gx, o, rfl, hc⟩ := SegS.cellAt (hs1.below hbw) hlt
      have hsz : (ds[j]).size ≤ 10000 := h2 _ (List.getElem_mem _)
      have HC := Lib.hid (cat_succ ds j hjd)
      have hln : l.length ≤ 2 + 10000 * j := by
        rw [hl, List.length_append, HHL.out]
        have := cat_len (ds.take j) fun s h => h2 s (List.mem_of_mem_take h)
        have e : (ds.take j).length = j := by rw [List.length_take]; omega
        rw [e] at this
        omega
      generalize ds[j]'(by rw [hs1.1]; exact hlt) = s at *
      obtain ⟨Aq, cq, rfl, _, _, _⟩ := hol.forms
      have HL := Lib.hid hl
      clear hl
      go_wp2_with (at_builtin
                   refine wpList_append_str _ rfl (.tmp 17) (.tmp 22) _ _ _ bt Tryd.underlying9 rfl w0.heap.size _ l rfl hol s rfl (by omega) hzz ?_
                   intro v3 w3 ho3 hg3
                   have hbw3 := below_grown hbw hol hg3 (Nat.le_refl _) hzz
                   clear hg3)
      go_roundw
      case rel => exact ⟨j + 1, _, by omega, by go_num, by rw [HL.out, HC.out, List.append_assoc], ho3, hbw3⟩
      case measure => simp [intOf]; omega
    · obtain rfl : n = j := by omega
      rw [List.take_of_length_le (by rw [HN.out]; omega)] at hl
      subst hl
      obtain ⟨Aq, cq, rfl, _, _, _⟩ := hol.forms
      have hll : (hd ++ cat ds).length ≤ 4000000 := by rw [List.length_append, HHL.out]; omega
      clear hs1
      generalize hd ++ cat ds = l at *
      have HLL := Lib.hid hll
      obtain ⟨l3, hl3⟩ : ∃ l3, l ++ [UInt8.ofNat k] = l3 := ⟨_, rfl⟩
      have HLL3 := Lib.hid (show l3.length ≤ 4000001 by rw [← hl3, List.length_append, List.length_singleton]; omega)
      obtain ⟨l4, hl4⟩ : ∃ l4, l3 ++ ptext key.data.toList = l4 := ⟨_, rfl⟩
      have HLL4 := Lib.hid (show l4.length ≤ 4010010 by have := HLL3.out; rw [← hl4, List.length_append]; unfold ptext; rw [List.length_append, high_length, HKL.out]; omega)
      have HL3 := Lib.hid hl3
      have HL4 := Lib.hid hl4
      clear hl3 hl4 hll
      have HP2 := Lib.hid (show pend2 ⟨ds, k, key, row⟩ = if k = 2 then ptext key.data.toList ++ ptext row else if k = 1 then ptext row else [] from rfl)
      obtain ⟨E, hE⟩ : ∃ E, penc ⟨ds, k, key, row⟩ = E := ⟨_, rfl⟩
      rw [hE] at HEN2
      have HE := Lib.hid hE
      clear hE
      generalize pend2 ⟨ds, k, key, row⟩ = tl at *
      by_cases hk2 : k = 2
      · have hq2 : ((k : Int) == 2) = true := by simp; omega
        have hq1 : ((k : Int) == 1) = false := by simp; omega
        have hT := HP2.out
        rw [if_pos hk2] at hT
        subst hT
        have HNE := Lib.hid hk2
        clear hk2
        go_wp2_with (first
          | (at_builtin
             refine wpList_append_seg _ rfl (.tmp 24) (.tmp 27) _ _ bt rfl w0.heap.size (.slice Aq l.length cq) l rfl (hol.alloc _) _ 1 1 [UInt8.ofNat k] rfl (Seg.one _ _ _ _ HKU.out) (by have := HLL.out; omega) (by simp; omega) ?_
             intro v3 w3 ho3 hg3 hat3
             have hbw3 := below_grown (hbw.alloc hzz _) (hol.alloc _) hg3 (Nat.le_refl _) (by simp; omega)
             obtain ⟨y0, y1, y2, y3, yf⟩ := HB1.out.below hbw3
             rw [HL3.out] at ho3
             obtain ⟨A3, c3, rfl, hs3, _, _⟩ := ho3.forms
             have kcv := Lib.run_convert_string_bytes (P := Tryd.prog) w3 9 29 5 key Tryd.underlying9 Tryd.underlying29 Tryd.underlying5
             clear hg3 yf x0 x1 x2 x3 hat3)
          | (go_at_call 82
             refine (rblob_any A3 _ l3.length key.size c3 _ l3 key.data.toList _ (hs3.below (bytesBelow w3 5 key)) (bytesSeg w3 5 key) (by have := HLL3.out; omega) (by omega)).mono ?_
             rintro _ w4 ⟨v4, rfl, ho4, hbv4⟩
             have hz3 := hbw3.size
             have hbw4 : Below w0.heap.size w0 w4 := Below.next' (Below.next' hbw3 (bytesBelow w3 5 key) hz3) hbv4 (by have := (bytesBelow w3 5 key).size; omega)
             have hz4 := hbw4.size
             have ho4 := ho4.mono (b := w0.heap.size) (by have := (bytesBelow w3 5 key).size; omega)
             rw [HL4.out] at ho4
             obtain ⟨A4, c4, rfl, hs4, _, _⟩ := ho4.forms
             obtain ⟨u0, u1, u2, u3, uf⟩ := HB1.out.below hbw4
             clear uf ho3 y0 y1 y2 y3 hbv4 kcv hs3)
          | (go_at_call 82
             refine (rblob_any A4 B l4.length m c4 d l4 row _ hs4 (hr1.below hbw4) (by have := HLL4.out; omega) (by omega)).mono ?_
             rintro _ w5 ⟨v5, rfl, ho5, hbv5⟩
             have hbw5 := Below.next' hbw4 hbv5 hbw4.size
             have ho5 := ho5.mono (b := w0.heap.size) hbw4.size
             clear ho4))
        go_ret
        rw [HE.out, HEN2.out, HL3.out, ← List.append_assoc, HL4.out]
        refine ⟨_, rfl, ?_, ?_⟩
        · have := ho5.mono (b := b0) (by omega)
          rw [← HB0.out] at this ⊢
          exact this
        · exact (by rw [HB0.out]; exact (show Below b0 w w0 by rw [← HB0.out]; exact hbel).trans (hbw5.mono (by omega)))
      · by_cases hk1 : k = 1
        · have hq2 : ((k : Int) == 2) = false := by simp; omega
          have hq1 : ((k : Int) == 1) = true := by simp; omega
          have hT := HP2.out
          rw [if_neg hk2, if_pos hk1] at hT
          subst hT
          have HNE := Lib.hid hk1
          clear hk2 hk1
          go_wp2_with (first
            | (at_builtin
               refine wpList_append_seg _ rfl (.tmp 24) (.tmp 27) _ _ bt rfl w0.heap.size (.slice Aq l.length cq) l rfl (hol.alloc _) _ 1 1 [UInt8.ofNat k] rfl (Seg.one _ _ _ _ HKU.out) (by have := HLL.out; omega) (by simp; omega) ?_
               intro v3 w3 ho3 hg3 hat3
               have hbw3 := below_grown (hbw.alloc hzz _) (hol.alloc _) hg3 (Nat.le_refl _) (by simp; omega)
               obtain ⟨y0, y1, y2, y3, yf⟩ := HB1.out.below hbw3
               rw [HL3.out] at ho3
               obtain ⟨A3, c3, rfl, hs3, _, _⟩ := ho3.forms
               have kcv := Lib.run_convert_string_bytes (P := Tryd.prog) w3 9 29 5 key Tryd.underlying9 Tryd.underlying29 Tryd.underlying5
               clear hg3 yf x0 x1 x2 x3 hat3)
            | (go_at_call 82
               refine (rblob_any A3 B l3.length m c3 d l3 row _ hs3 (hr1.below hbw3) (by have := HLL3.out; omega) (by omega)).mono ?_
               rintro _ w5 ⟨v5, rfl, ho5, hbv5⟩
               have hbw5 := Below.next' hbw3 hbv5 hbw3.size
               have ho5 := ho5.mono (b := w0.heap.size) hbw3.size
               clear ho3))
          go_ret
          rw [HE.out, HEN2.out, HL3.out]
          refine ⟨_, rfl, ?_, ?_⟩
          · have := ho5.mono (b := b0) (by omega)
            rw [← HB0.out] at this ⊢
            exact this
          · exact (by rw [HB0.out]; exact (show Below b0 w w0 by rw [← HB0.out]; exact hbel).trans (hbw5.mono (by omega)))
        · have hq2 : ((k : Int) == 2) = false := by simp; omega
          have hq1 : ((k : Int) == 1) = false := by simp; omega
          have hT := HP2.out
          rw [if_neg hk2, if_neg hk1] at hT
          subst hT
          clear hk2 hk1
          go_wp2_with (first
            | (at_builtin
               refine wpList_append_seg _ rfl (.tmp 24) (.tmp 27) _ _ bt rfl w0.heap.size (.slice Aq l.length cq) l rfl (hol.alloc _) _ 1 1 [UInt8.ofNat k] rfl (Seg.one _ _ _ _ HKU.out) (by have := HLL.out; omega) (by simp; omega) ?_
               intro v3 w3 ho3 hg3 hat3
               have hbw3 := below_grown (hbw.alloc hzz _) (hol.alloc _) hg3 (Nat.le_refl _) (by simp; omega)
               obtain ⟨y0, y1, y2, y3, yf⟩ := HB1.out.below hbw3
               rw [HL3.out] at ho3
               obtain ⟨A3, c3, rfl, hs3, _, _⟩ := ho3.forms
               have kcv := Lib.run_convert_string_bytes (P := Tryd.prog) w3 9 29 5 key Tryd.underlying9 Tryd.underlying29 Tryd.underlying5
               clear hg3 yf x0 x1 x2 x3 hat3))
          go_ret
          rw [HE.out, HEN2.out, HL3.out, List.append_nil]
          refine ⟨_, rfl, ?_, ?_⟩
          · have := ho3.mono (b := b0) (by omega)
            rw [← HB0.out] at this ⊢
            exact this
          · exact (by rw [HB0.out]; exact (show Below b0 w w0 by rw [← HB0.out]; exact hbel).trans (hbw3.mono (by omega)))

end Go.Proofs.YtaanaoimnecenaaDoor
