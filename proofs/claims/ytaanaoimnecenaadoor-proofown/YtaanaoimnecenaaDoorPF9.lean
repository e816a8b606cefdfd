/-
  Encode of proofs, the program's and the document's.
-/
import Derived.Test.YtaanaoimnecenaaDoorPF7
import Derived.Test.YtaanaoimnecenaaDoorWM3
namespace Go.Proofs.YtaanaoimnecenaaDoor
open Go.RowKit

theorem cat_succ (ds : List ByteArray) (k : Nat) (h : k < ds.length) : cat (ds.take (k + 1)) = cat (ds.take k) ++ ds[k].data.toList := by
  unfold cat
  rw [List.take_succ_eq_append_getElem h, List.flatMap_append, List.flatMap_cons, List.flatMap_nil, List.append_nil]
theorem cat_len (ds : List ByteArray) (h : ∀ s ∈ ds, s.size ≤ 10000) : (cat ds).length ≤ 10000 * ds.length := by
  induction ds with
  | nil => exact Nat.le_refl _
  | cons s ds ih =>
    have h1 := ih fun t ht => h t (List.mem_cons_of_mem _ ht)
    have h2 := h s (List.mem_cons_self ..)
    show (s.data.toList ++ cat ds).length ≤ _
    rw [List.length_append, List.length_cons]
    have : s.data.toList.length = s.size := by simp
    omega
/-- The last part of a proof's bytes. -/
def pend2 (p : Pf) : List UInt8 := if p.k = 2 then ptext p.key.data.toList ++ ptext p.row else if p.k = 1 then ptext p.row else []

set_option maxHeartbeats 1000000 in
theorem rblob_any (A B : Option Addr) (n m c d : Nat) (l r : List UInt8) (w : World) (ha : Seg w A n l) (hb : Seg w B m r) (hn : n ≤ 100000000) (hm : m ≤ 10000) :
    Calls Tryd.prog 82 #[.slice A n c, .slice B m d] w fun e w' => ∃ v, e = .returned v ∧ Own w' w.heap.size 5 v (l ++ ptext r) ∧ Below w.heap.size w w' := by
  obtain rfl := ha.len
  obtain rfl := hb.len
  have hwr : IntKind.u64.wrap (r.length : Int) = (r.length : Int) := IntWalk.u64_in _ (by omega)
  go_enter Tryd.func82, Tryd.ntmps82
  go_wp2_with fail
  refine (num_call _ _ _ (by omega) (by omega) (by omega)).mono ?_
  rintro _ w1 ⟨v1, rfl, ho1, hb1⟩
  have HL1 := Lib.hid (show (high ((r.length : Nat) : Int).toNat (2 : Int).toNat).length = 2 by rw [high_length]; rfl)
  have HEQ := Lib.hid (show l ++ high ((r.length : Nat) : Int).toNat (2 : Int).toNat ++ r = l ++ ptext r by unfold ptext; rw [List.append_assoc]; rfl)
  generalize high ((r.length : Nat) : Int).toNat (2 : Int).toNat = l1 at *
  obtain ⟨A1, c1, rfl, hs1, _, _⟩ := ho1.forms
  go_wp2_with fail
  refine (join_any A A1 _ _ c c1 l l1 _ (ha.below hb1) hs1 (by rw [HL1.out]; omega)).mono ?_
  rintro _ w2 ⟨v2, rfl, ho2, hb2⟩
  have hbw2 := Below.next' hb1 hb2 hb1.size
  have hl2 : (l ++ l1).length ≤ 100000002 := by rw [List.length_append, HL1.out]; omega
  generalize l ++ l1 = l3 at *
  obtain ⟨A2, c2, rfl, hs2, _, _⟩ := ho2.forms
  go_wp2_with fail
  refine (join_any A2 B _ _ c2 d l3 r _ hs2 (hb.below hbw2) (by omega)).mono ?_
  rintro _ w3 ⟨v3, rfl, ho3, hb3⟩
  rw [HEQ.out] at ho3
  go_wp2
  go_ret
  exact ⟨_, rfl, ho3.mono hbw2.size, Below.next' hbw2 hb3 hbw2.size⟩

set_option maxRecDepth 4000 in
set_option maxHeartbeats 8000000 in
theorem pencode_any (v : Value) (p : Pf) (w : World) (hv : PfAt w v p) (h1 : p.side.length ≤ 300) (h2 : ∀ s ∈ p.side, s.size ≤ 10000) (h3 : p.key.size ≤ 10000) (h4 : p.row.length ≤ 10000) (h5 : p.k < 256) :
    Calls Tryd.prog 45 #[v] w fun e w' => ∃ r, e = .returned r ∧ Own w' w.heap.size 5 r (penc p) ∧ Below w.heap.size w w' := by
  obtain ⟨A, c, B, d, rfl, a1, a2, a3, a4, a5, a6⟩ := hv
  have HEN := Lib.hid (show penc p = high p.side.length 2 ++ cat p.side ++ [UInt8.ofNat p.k] ++ pend2 p from rfl)
  have hcl := cat_len p.side h2
  obtain ⟨ds, k, key, row⟩ := p
  dsimp only at *
  have hkl : key.data.toList.length = key.size := by simp
  have HKL := Lib.hid hkl
  clear hkl
  obtain ⟨n, hn1⟩ : ∃ n, ds.length = n := ⟨_, rfl⟩
  obtain ⟨m, hm1⟩ : ∃ m, row.length = m := ⟨_, rfl⟩
  rw [hn1] at a1 a3 h1 hcl HEN
  rw [hm1] at a2 a5 h4
  rw [hn1, hm1]
  have HN := Lib.hid hn1
  have HM := Lib.hid hm1
  have hb1 := Bx.new w (.slice A n c) (.int .u8 (k : Int)) (.string key) (.slice B m d) 65
  have hbel := (Below.refl w.heap.size w).alloc (Nat.le_refl _) (.cells #[.slice A n c, .int .u8 (k : Int), .string key, .slice B m d] 65)
  have hs1 := a1.alloc (.cells #[.slice A n c, .int .u8 (k : Int), .string key, .slice B m d] 65)
  have hr1 := a2.alloc (.cells #[.slice A n c, .int .u8 (k : Int), .string key, .slice B m d] 65)
  have hz1 : (w.alloc (.cells #[.slice A n c, .int .u8 (k : Int), .string key, .slice B m d] 65)).heap.size = w.heap.size + 1 := by simp
  have HKU := Lib.hid (show ((k : Nat) : Int) = ((UInt8.ofNat k).toNat : Int) by rw [UInt8.toNat_ofNat', Nat.mod_eq_of_lt h5])
  have hBlt : 0 < m → ∀ a, B = some a → a.block < w.heap.size := a2.lt
  clear hn1 hm1 a1 a2
  have hwr : IntKind.u64.wrap (n : Int) = (n : Int) := IntWalk.u64_in _ (by omega)
  go_enter Tryd.func45, Tryd.ntmps45
  go_wp2_with fail
  generalize w.alloc (.cells #[.slice A n c, .int .u8 (k : Int), .string key, .slice B m d] 65) = w0 at *
  obtain ⟨b0, hb0⟩ : ∃ b0, w.heap.size = b0 := ⟨_, rfl⟩
  rw [hb0] at hb1 hz1 hBlt ⊢
  have HB0 := Lib.hid hb0
  clear hb0
  refine (pAppendHigh_call _ w0.heap.size [] _ _ _ (Own.nil _ _ _) (Nat.le_refl _) (by omega) (by omega) (by omega) (by omega) (by simp)).mono ?_
  rintro _ w1 ⟨v1, rfl, ho1, hg1⟩
  have hbw1 : Below w0.heap.size w0 w1 := hg1.below (Below.refl _ _) (Own.nil _ w0.heap.size 0) (Nat.le_refl _) (Nat.le_refl _)
  rw [List.nil_append] at ho1
  clear hg1
  have HHL := Lib.hid (show (high ((n : Nat) : Int).toNat (2 : Int).toNat).length = 2 by rw [high_length]; rfl)
  have HEN2 := Lib.hid (show penc ⟨ds, k, key, row⟩ = high ((n : Nat) : Int).toNat (2 : Int).toNat ++ cat ds ++ [UInt8.ofNat k] ++ pend2 ⟨ds, k, key, row⟩ from HEN.out)
  clear HEN
  generalize high ((n : Nat) : Int).toNat (2 : Int).toNat = hd at *
  have HB1 := Lib.hid hb1
  obtain ⟨z0, z1, z2, z3, zf⟩ := hb1.below hbw1
  clear zf
  go_wp2_with fail
  clear z0 z1 z2 z3
  go_loopw [3, 5, 13] (fun q _ i w' => ∃ (j : Nat) (l : List UInt8), j ≤ n ∧ i = .int .i64 j ∧ l = hd ++ cat (ds.take j) ∧ Own w' w0.heap.size 5 q l ∧ Below w0.heap.size w0 w') (fun _ _ i _ => n - (intOf i).toNat)
  case atStart => exact ⟨0, hd, by omega, rfl, by simp [cat], ho1, hbw1⟩
  case round =>
    clear ho1 hbw1 hb1
    obtain ⟨j, l, hj, rfl, hl, hol, hbw⟩ := hrel
    obtain ⟨x0, x1, x2, x3, xf⟩ := HB1.out.below hbw
    clear xf
    have hzz := hbw.size
    by_cases hlt : j < n
    · have hjd : j < ds.length := by rw [HN.out]; exact hlt
      obtain ⟨gx, o, rfl, hc⟩ := SegS.cellAt (hs1.below hbw) hlt
      have hsz : (ds[j]).size ≤ 10000 := h2 _ (List.getElem_mem _)
      have HC := Lib.hid (cat_succ ds j hjd)
      have hln : l.length ≤ 2 + 10000 * j := by
        rw [hl, List.length_append, HHL.out]
        have := cat_len (ds.take j) fun s h => h2 s (List.mem_of_mem_take h)
        have e : (ds.take j).length = j := by rw [List.length_take]; omega
        rw [e] at this
        omega
      generalize ds[j]'(by rw [hs1.1]; exact hlt) = s at *
      obtain ⟨Aq, cq, rfl, _, _, _⟩ := hol.forms
      have HL := Lib.hid hl
      clear hl
      go_wp2_with (at_builtin
                   refine wpList_append_str _ rfl (.tmp 17) (.tmp 18) _ _ _ bt Tryd.underlying9 rfl w0.heap.size _ l rfl hol s rfl (by omega) hzz ?_
                   intro v3 w3 ho3 hg3
                   have hbw3 := below_grown hbw hol hg3 (Nat.le_refl _) hzz
                   clear hg3)
      go_roundw
      case rel => exact ⟨j + 1, _, by omega, by go_num, by rw [HL.out, HC.out, List.append_assoc], ho3, hbw3⟩
      case measure => simp [intOf]; omega
    · obtain rfl : n = j := by omega
      rw [List.take_of_length_le (by rw [HN.out]; omega)] at hl
      subst hl
      obtain ⟨Aq, cq, rfl, _, _, _⟩ := hol.forms
      have hll : (hd ++ cat ds).length ≤ 4000000 := by rw [List.length_append, HHL.out]; omega
      clear hs1
      generalize hd ++ cat ds = l at *
      have HLL := Lib.hid hll
      obtain ⟨l3, hl3⟩ : ∃ l3, l ++ [UInt8.ofNat k] = l3 := ⟨_, rfl⟩
      have HLL3 := Lib.hid (show l3.length ≤ 4000001 by rw [← hl3, List.length_append, List.length_singleton]; omega)
      obtain ⟨l4, hl4⟩ : ∃ l4, l3 ++ ptext key.data.toList = l4 := ⟨_, rfl⟩
      have HLL4 := Lib.hid (show l4.length ≤ 4010010 by have := HLL3.out; rw [← hl4, List.length_append]; unfold ptext; rw [List.length_append, high_length, HKL.out]; omega)
      have HL3 := Lib.hid hl3
      have HL4 := Lib.hid hl4
      clear hl3 hl4 hll
      have HP2 := Lib.hid (show pend2 ⟨ds, k, key, row⟩ = if k = 2 then ptext key.data.toList ++ ptext row else if k = 1 then ptext row else [] from rfl)
      obtain ⟨E, hE⟩ : ∃ E, penc ⟨ds, k, key, row⟩ = E := ⟨_, rfl⟩
      rw [hE] at HEN2
      have HE := Lib.hid hE
      clear hE
      generalize pend2 ⟨ds, k, key, row⟩ = tl at *
      by_cases hk2 : k = 2
      · have hq2 : ((k : Int) == 2) = true := by simp; omega
        have hq1 : ((k : Int) == 1) = false := by simp; omega
        have hT := HP2.out
        rw [if_pos hk2] at hT
        subst hT
        have HNE := Lib.hid hk2
        clear hk2
        go_wp2_with (first
          | (at_builtin
             refine wpList_append_seg _ rfl (.tmp 21) (.tmp 24) _ _ bt rfl w0.heap.size (.slice Aq l.length cq) l rfl (hol.alloc _) _ 1 1 [UInt8.ofNat k] rfl (Seg.one _ _ _ _ HKU.out) (by have := HLL.out; omega) (by simp; omega) ?_
             intro v3 w3 ho3 hg3 hat3
             have hbw3 := below_grown (hbw.alloc hzz _) (hol.alloc _) hg3 (Nat.le_refl _) (by simp; omega)
             obtain ⟨y0, y1, y2, y3, yf⟩ := HB1.out.below hbw3
             rw [HL3.out] at ho3
             obtain ⟨A3, c3, rfl, _, _, _⟩ := ho3.forms
             clear hg3 yf x0 x1 x2 x3 hat3)
          | (go_at_call 75
             refine (pTextS_any _ w0.heap.size l3 key _ ho3 hbw3.size (by omega) (by have := HLL3.out; omega)).mono ?_
             rintro _ w4 ⟨v4, rfl, ho4, hbv4⟩
             have hbw4 := hbw3.trans hbv4
             rw [HL4.out] at ho4
             obtain ⟨A4, c4, rfl, _, _, _⟩ := ho4.forms
             obtain ⟨u0, u1, u2, u3, uf⟩ := HB1.out.below hbw4
             clear uf ho3 y0 y1 y2 y3)
          | (go_at_call 76
             refine (pTextB_any _ w0.heap.size l4 B m d row _ ho4 hbw4.size (hr1.below hbw4) (fun hp a ha => by have := hBlt hp a ha; omega) (by omega) (by have := HLL4.out; omega)).mono ?_
             rintro _ w5 ⟨v5, rfl, ho5, hbv5⟩
             have hbw5 := hbw4.trans hbv5
             clear ho4))
        go_ret
        rw [HE.out, HEN2.out, HL3.out, ← List.append_assoc, HL4.out]
        refine ⟨_, rfl, ?_, ?_⟩
        · have := ho5.mono (b := b0) (by omega)
          rw [← HB0.out] at this ⊢
          exact this
        · exact (by rw [HB0.out]; exact (show Below b0 w w0 by rw [← HB0.out]; exact hbel).trans (hbw5.mono (by omega)))
      · by_cases hk1 : k = 1
        · have hq2 : ((k : Int) == 2) = false := by simp; omega
          have hq1 : ((k : Int) == 1) = true := by simp; omega
          have hT := HP2.out
          rw [if_neg hk2, if_pos hk1] at hT
          subst hT
          have HNE := Lib.hid hk1
          clear hk2 hk1
          go_wp2_with (first
            | (at_builtin
               refine wpList_append_seg _ rfl (.tmp 21) (.tmp 24) _ _ bt rfl w0.heap.size (.slice Aq l.length cq) l rfl (hol.alloc _) _ 1 1 [UInt8.ofNat k] rfl (Seg.one _ _ _ _ HKU.out) (by have := HLL.out; omega) (by simp; omega) ?_
               intro v3 w3 ho3 hg3 hat3
               have hbw3 := below_grown (hbw.alloc hzz _) (hol.alloc _) hg3 (Nat.le_refl _) (by simp; omega)
               obtain ⟨y0, y1, y2, y3, yf⟩ := HB1.out.below hbw3
               rw [HL3.out] at ho3
               obtain ⟨A3, c3, rfl, _, _, _⟩ := ho3.forms
               clear hg3 yf x0 x1 x2 x3 hat3)
            | (go_at_call 76
               refine (pTextB_any _ w0.heap.size l3 B m d row _ ho3 hbw3.size (hr1.below hbw3) (fun hp a ha => by have := hBlt hp a ha; omega) (by omega) (by have := HLL3.out; omega)).mono ?_
               rintro _ w5 ⟨v5, rfl, ho5, hbv5⟩
               have hbw5 := hbw3.trans hbv5
               clear ho3))
          go_ret
          rw [HE.out, HEN2.out, HL3.out]
          refine ⟨_, rfl, ?_, ?_⟩
          · have := ho5.mono (b := b0) (by omega)
            rw [← HB0.out] at this ⊢
            exact this
          · exact (by rw [HB0.out]; exact (show Below b0 w w0 by rw [← HB0.out]; exact hbel).trans (hbw5.mono (by omega)))
        · have hq2 : ((k : Int) == 2) = false := by simp; omega
          have hq1 : ((k : Int) == 1) = false := by simp; omega
          have hT := HP2.out
          rw [if_neg hk2, if_neg hk1] at hT
          subst hT
          clear hk2 hk1
          go_wp2_with (first
            | (at_builtin
               refine wpList_append_seg _ rfl (.tmp 21) (.tmp 24) _ _ bt rfl w0.heap.size (.slice Aq l.length cq) l rfl (hol.alloc _) _ 1 1 [UInt8.ofNat k] rfl (Seg.one _ _ _ _ HKU.out) (by have := HLL.out; omega) (by simp; omega) ?_
               intro v3 w3 ho3 hg3 hat3
               have hbw3 := below_grown (hbw.alloc hzz _) (hol.alloc _) hg3 (Nat.le_refl _) (by simp; omega)
               obtain ⟨y0, y1, y2, y3, yf⟩ := HB1.out.below hbw3
               rw [HL3.out] at ho3
               obtain ⟨A3, c3, rfl, _, _, _⟩ := ho3.forms
               clear hg3 yf x0 x1 x2 x3 hat3))
          go_ret
          rw [HE.out, HEN2.out, HL3.out, List.append_nil]
          refine ⟨_, rfl, ?_, ?_⟩
          · have := ho3.mono (b := b0) (by omega)
            rw [← HB0.out] at this ⊢
            exact this
          · exact (by rw [HB0.out]; exact (show Below b0 w w0 by rw [← HB0.out]; exact hbel).trans (hbw3.mono (by omega)))

end Go.Proofs.YtaanaoimnecenaaDoor
