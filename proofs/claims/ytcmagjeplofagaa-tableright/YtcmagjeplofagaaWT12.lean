/-
  The walk of the document's Right.
-/
import Derived.Test.YtcmagjeplofagaaWT11
namespace Go.Proofs.Ytcmagjeplofagaa
open Go.RowKit

theorem bool_of (p : Prop) : ∃ b : Bool, b = true ↔ p := by
  by_cases h : p
  · exact ⟨true, by simp [h]⟩
  · exact ⟨false, by simp [h]⟩

set_option maxHeartbeats 400000 in
theorem named_any (s : ByteArray) (b : Bool) (w : World) (hb : b = true ↔ nameOk s) : Calls Try.prog 39 #[.string s] w fun e w' => e = .returned (.bool b) ∧ w = w' := by
  have HB := Lib.hid hb
  clear hb
  by_cases h1 : 0 < s.size
  · have t1 : (0 : Int) < (s.size : Int) := by omega
    go_enter Try.func39, Try.ntmps39
    go_wp2
    go_ret
    refine ⟨ret_bool ?_, rfl⟩
    rw [Bool.eq_iff_iff, HB.out]
    unfold nameOk
    simp
    omega
  · have t1 : (s.size : Int) ≤ 0 := by omega
    go_enter Try.func39, Try.ntmps39
    go_wp2
    go_ret
    refine ⟨ret_bool ?_, rfl⟩
    rw [Bool.eq_iff_iff, HB.out]
    unfold nameOk
    simp
    omega

/-- What is known of the first k columns, and of the first k tables. -/
def PreC (cs : List Col) (q : Int) (k : Nat) : Prop := ∀ (b : Nat) (x : Col), b < k → cs[b]? = some x → nameOk x.s ∧ (x.k = 1 ∨ x.k = 2) ∧ ((b : Int) < q → x.b = false) ∧ ∀ (a : Nat) (y : Col), a < b → cs[a]? = some y → y.s ≠ x.s
def PreT (L : List Tbl) (k : Nat) : Prop := ∀ (b : Nat) (x : Tbl), b < k → L[b]? = some x → nameOk x.s ∧ TblOk x ∧ ∀ (a : Nat) (y : Tbl), a < b → L[a]? = some y → y.s ≠ x.s
theorem PreC.ok {cs : List Col} {q : Int} {n : Nat} (h : PreC cs q n) (hn : cs.length = n) : ColsOk q cs := by
  refine ⟨fun c hc => ?_, ?_, fun c hc => ?_, fun i c hc hi => (h i c (by have := (List.getElem?_eq_some_iff.1 hc).1; omega) hc).2.2.1 hi⟩
  · obtain ⟨i, hi, rfl⟩ := List.getElem_of_mem hc
    exact (h i _ (by omega) (List.getElem?_eq_getElem hi)).1
  · rw [List.Nodup, List.pairwise_iff_getElem]
    intro i j hi hj hij e
    rw [List.length_map] at hi hj
    rw [List.getElem_map, List.getElem_map] at e
    exact (h j _ (by omega) (List.getElem?_eq_getElem hj)).2.2.2 i _ hij (List.getElem?_eq_getElem hi) e
  · obtain ⟨i, hi, rfl⟩ := List.getElem_of_mem hc
    exact (h i _ (by omega) (List.getElem?_eq_getElem hi)).2.1
theorem PreC.of {cs : List Col} {q : Int} (h : ColsOk q cs) (n : Nat) : PreC cs q n := by
  intro b x _ hx
  have hm := List.mem_of_getElem? hx
  refine ⟨h.1 x hm, h.2.2.1 x hm, h.2.2.2 b x hx, fun a y hab hy e => ?_⟩
  have hn := h.2.1
  rw [List.Nodup, List.pairwise_iff_getElem] at hn
  obtain ⟨hb, rfl⟩ := List.getElem?_eq_some_iff.1 hx
  obtain ⟨ha, rfl⟩ := List.getElem?_eq_some_iff.1 hy
  exact hn a b (by simpa using ha) (by simpa using hb) hab (by simpa using e)
theorem PreT.ok {L : List Tbl} {n : Nat} (h : PreT L n) (hn : L.length = n) (h1 : 1 ≤ n) (h4 : n ≤ 4) : TabsOk L := by
  refine ⟨by omega, by omega, fun c hc => ?_, ?_, fun c hc => ?_⟩
  · obtain ⟨i, hi, rfl⟩ := List.getElem_of_mem hc
    exact (h i _ (by omega) (List.getElem?_eq_getElem hi)).1
  · rw [List.Nodup, List.pairwise_iff_getElem]
    intro i j hi hj hij e
    rw [List.length_map] at hi hj
    rw [List.getElem_map, List.getElem_map] at e
    exact (h j _ (by omega) (List.getElem?_eq_getElem hj)).2.2 i _ hij (List.getElem?_eq_getElem hi) e
  · obtain ⟨i, hi, rfl⟩ := List.getElem_of_mem hc
    exact (h i _ (by omega) (List.getElem?_eq_getElem hi)).2.1
theorem PreT.of {L : List Tbl} (h : TabsOk L) (n : Nat) : PreT L n := by
  intro b x _ hx
  have hm := List.mem_of_getElem? hx
  refine ⟨h.2.2.1 x hm, h.2.2.2.2 x hm, fun a y hab hy e => ?_⟩
  have hn := h.2.2.2.1
  rw [List.Nodup, List.pairwise_iff_getElem] at hn
  obtain ⟨hb, rfl⟩ := List.getElem?_eq_some_iff.1 hx
  obtain ⟨ha, rfl⟩ := List.getElem?_eq_some_iff.1 hy
  exact hn a b (by simpa using ha) (by simpa using hb) hab (by simpa using e)
theorem toList_beq_no {a b : ByteArray} (h : a ≠ b) : (a.toList == b.toList) = false := by
  rw [beq_eq_false_iff_ne]
  intro e
  exact h (toList_inj.1 e)

set_option maxHeartbeats 2000000 in
set_option maxRecDepth 8000 in
theorem rright_tables (A : Option Addr) (n c : Nat) (L : List Tbl) (w : World) (ha : SegT w A n L) (hn : n ≤ maxLen) :
    Calls Try.prog 14 #[.slice A n c] w (RightP (TabsOk L) w) := by
  have hl := ha.len
  unfold maxLen at hn
  have HL := Lib.hid hl
  clear hl
  by_cases h1 : 1 ≤ n
  · have t1 : (1 : Int) ≤ (n : Int) := by omega
    by_cases h4 : n ≤ 4
    · have t2 : (n : Int) ≤ 4 := by omega
      go_enter Try.func14, Try.ntmps14
      go_wp2
      go_loopw [3] (fun i w' => ∃ k : Nat, k ≤ n ∧ i = .int .i64 k ∧ PreT L k ∧ Below w.heap.size w w') (fun i _ => n - (intOf i).toNat)
      case atStart => exact ⟨0, Nat.zero_le _, rfl, (fun j x h => absurd h (by omega)), Below.refl _ _⟩
      case round =>
        obtain ⟨k, hk, rfl, hpre, hbw⟩ := hrel
        have HPRE := Lib.hid hpre
        clear hpre
        by_cases hlt : k < n
        · have has := SegT.below ha hbw
          obtain ⟨g, o, B', m, c', rfl, h0, h1, h2, hs, hmc, hcm⟩ := SegT.at_ has hlt
          have hx : L[k]? = some (L[k]'(by rw [ha.len]; exact hlt)) := List.getElem?_eq_getElem _
          generalize L[k]'(by rw [ha.len]; exact hlt) = x at *
          have HX := Lib.hid hx
          clear hx
          have hg := World.block_lt_of_cell? _ _ h0
          simp only at hg
          have hbad : ¬ (nameOk x.s ∧ TblOk x ∧ ∀ (a : Nat) (y : Tbl), a < k → L[a]? = some y → y.s ≠ x.s) → ¬ TabsOk L := fun h h' => h (PreT.of h' n k x hlt HX.out)
          have HBAD := Lib.hid hbad
          clear hbad
          go_wp2
          have b0 : (wr.alloc (.cells #[.string x.s, .slice B' m c', .int .i64 x.k] 30)).cell? ⟨wr.heap.size, 0, none⟩ = some (.string x.s) := by simp
          have b1 : (wr.alloc (.cells #[.string x.s, .slice B' m c', .int .i64 x.k] 30)).cell? ⟨wr.heap.size, 1, none⟩ = some (.slice B' m c') := by simp
          have b2 : (wr.alloc (.cells #[.string x.s, .slice B' m c', .int .i64 x.k] 30)).cell? ⟨wr.heap.size, 2, none⟩ = some (.int .i64 x.k) := by simp
          have hbwX : Below w.heap.size w (wr.alloc (.cells #[.string x.s, .slice B' m c', .int .i64 x.k] 30)) := hbw.alloc hbw.size _
          have hasX : SegT (wr.alloc (.cells #[.string x.s, .slice B' m c', .int .i64 x.k] 30)) (some ⟨g, o, none⟩) n L := SegT.below has ((Below.refl _ _).alloc (Nat.le_refl _) _)
          have hsX := SegG.alloc hs (.cells #[.string x.s, .slice B' m c', .int .i64 x.k] 30)
          generalize wr.alloc (.cells #[.string x.s, .slice B' m c', .int .i64 x.k] 30) = X at *
          generalize wr.heap.size = bx at *
          clear h0 h1 h2 hg hbw has hs
          go_loopw [5] (fun i w' => ∃ j : Nat, j ≤ k ∧ i = .int .i64 j ∧ (∀ (a : Nat) (y : Tbl), a < j → L[a]? = some y → y.s ≠ x.s) ∧ Below X.heap.size X w') (fun i _ => k - (intOf i).toNat)
          case atStart => exact ⟨0, Nat.zero_le _, rfl, (fun j x h => absurd h (by omega)), Below.refl _ _⟩
          case round =>
            rename World => wj
            obtain ⟨j, hj, rfl, hnm, hbj⟩ := hrel
            have HNM := Lib.hid hnm
            clear hnm
            have d0 := cell_below hbj b0
            by_cases hjk : j < k
            · obtain ⟨g2, o2, B2, m2, c2, e2, q0, _, _, _, _, _⟩ := SegT.at_ (SegT.below hasX hbj) (k := j) (by omega)
              injection e2 with e2
              injection e2 with e3 e4
              subst e3 e4
              have hy : L[j]? = some (L[j]'(by rw [ha.len]; omega)) := List.getElem?_eq_getElem _
              generalize L[j]'(by rw [ha.len]; omega) = y at *
              have HY := Lib.hid hy
              clear hy
              have i0 : (0 : Int) ≤ (j : Int) := by omega
              have i1 : (j : Int) < (n : Int) := by omega
              by_cases hyx : y.s = x.s
              · have hyb : (y.s.toList == x.s.toList) = true := by rw [hyx]; simp
                have HYX := Lib.hid hyx
                clear hyx
                go_wp2
                go_quiet (fail)
                go_wp2
                go_ret
                refine RightP.no (HBAD.out fun h => h.2.2 j y hjk HY.out HYX.out) ?_
                exact below_drewN (Below.next' hbwX hbj hbwX.size) _
              · have hyb := toList_beq_no hyx
                have HYX := Lib.hid hyx
                clear hyx
                go_wp2
                go_quiet (fail)
                go_wp2
                go_roundw
                case rel =>
                  refine ⟨j + 1, hjk, by go_num, fun a z haj hz => ?_, below_drewN hbj _⟩
                  by_cases e : a = j
                  · subst e
                    obtain rfl : z = y := Option.some.inj (hz.symm.trans HY.out)
                    exact HYX.out
                  · exact HNM.out a z (by omega) hz
                case measure => simp [intOf]; omega
            · obtain rfl : k = j := by omega
              have d1 := cell_below hbj b1
              have d2 := cell_below hbj b2
              have hbwj : Below w.heap.size w wj := Below.next' hbwX hbj hbwX.size
              have hsj := SegG.below hsX hbj
              clear b0 b1 b2 hbwX hasX hsX
              obtain ⟨bn, hbn⟩ := bool_of (nameOk x.s)
              have HBN := Lib.hid hbn
              clear hbn
              have hml := hsj.1
              have HML := Lib.hid hml
              clear hml
              go_wp2_with fail
              refine (named_any x.s bn _ HBN.out).mono ?_
              rintro e w' ⟨rfl, rfl⟩
              have hshape : ¬ (1 ≤ m ∧ m ≤ 8 ∧ 1 ≤ x.k ∧ x.k ≤ (m : Int)) → ¬ TabsOk L := fun h => HBAD.out fun h' => h ⟨by have := h'.2.1.1; have := HML.out; omega, by have := h'.2.1.2.1; have := HML.out; omega, h'.2.1.2.2.1, by have := h'.2.1.2.2.2.1; have := HML.out; omega⟩
              have HSH := Lib.hid hshape
              clear hshape
              rcases bn with _ | _
              · go_wp2
                go_ret
                refine RightP.no (HBAD.out fun h => ?_) hbwj
                have := HBN.out.2 h.1
                cases this
              · by_cases m1 : 1 ≤ m
                · have u1 : (1 : Int) ≤ (m : Int) := by omega
                  by_cases m8 : m ≤ 8
                  · have u2 : (m : Int) ≤ 8 := by omega
                    by_cases q1 : 1 ≤ x.k
                    · by_cases q2 : x.k ≤ (m : Int)
                      · go_wp2
                        go_loopw [6] (fun i w' => ∃ q : Nat, q ≤ m ∧ i = .int .i64 q ∧ PreC x.cols x.k q ∧ Below wj.heap.size wj w') (fun i _ => m - (intOf i).toNat)
                        case atStart => exact ⟨0, Nat.zero_le _, rfl, (fun j x h => absurd h (by omega)), Below.refl _ _⟩
                        case round =>
                          rename World => wq
                          obtain ⟨q, hq, rfl, hpc, hbq⟩ := hrel
                          have HPC := Lib.hid hpc
                          clear hpc
                          have f1 := cell_below hbq d1
                          have f2 := cell_below hbq d2
                          have hbwq : Below w.heap.size w wq := Below.next' hbwj hbq hbwj.size
                          by_cases hqm : q < m
                          · have hsq := SegG.below hsj hbq
                            obtain ⟨g3, o3, rfl, c0, c1, c2⟩ := SegC.at_ hsq hqm
                            have hz : x.cols[q]? = some (x.cols[q]'(by rw [hsj.1]; exact hqm)) := List.getElem?_eq_getElem _
                            generalize x.cols[q]'(by rw [hsj.1]; exact hqm) = z at *
                            have HZ := Lib.hid hz
                            clear hz
                            have hg3 := World.block_lt_of_cell? _ _ c0
                            have hgx := World.block_lt_of_cell? _ _ f1
                            simp only at hg3 hgx
                            have i0 : (0 : Int) ≤ (q : Int) := by omega
                            have i1 : (q : Int) < (m : Int) := by omega
                            have hbadc : ¬ (nameOk z.s ∧ (z.k = 1 ∨ z.k = 2) ∧ ((q : Int) < x.k → z.b = false) ∧ ∀ (a : Nat) (y : Col), a < q → x.cols[a]? = some y → y.s ≠ z.s) → ¬ TabsOk L := fun h => HBAD.out fun h' => h (PreC.of h'.2.1.2.2.2.2 m q z hqm HZ.out)
                            have HBADC := Lib.hid hbadc
                            clear hbadc
                            obtain ⟨bz, hbz⟩ := bool_of (nameOk z.s)
                            have HBZ := Lib.hid hbz
                            clear hbz
                            go_wp2_with fail
                            have e0 : (wq.alloc (.cells #[.string z.s, .int .u8 z.k, .bool z.b] 33)).cell? ⟨wq.heap.size, 0, none⟩ = some (.string z.s) := by simp
                            have e1 : (wq.alloc (.cells #[.string z.s, .int .u8 z.k, .bool z.b] 33)).cell? ⟨wq.heap.size, 1, none⟩ = some (.int .u8 z.k) := by simp
                            have e2 : (wq.alloc (.cells #[.string z.s, .int .u8 z.k, .bool z.b] 33)).cell? ⟨wq.heap.size, 2, none⟩ = some (.bool z.b) := by simp
                            replace f1 := cell_alloc (.cells #[.string z.s, .int .u8 z.k, .bool z.b] 33) f1
                            replace f2 := cell_alloc (.cells #[.string z.s, .int .u8 z.k, .bool z.b] 33) f2
                            have hbwZ : Below w.heap.size w (wq.alloc (.cells #[.string z.s, .int .u8 z.k, .bool z.b] 33)) := hbwq.alloc hbwq.size _
                            have hbjZ : Below wj.heap.size wj (wq.alloc (.cells #[.string z.s, .int .u8 z.k, .bool z.b] 33)) := hbq.alloc hbq.size _
                            replace hsq := SegG.alloc hsq (.cells #[.string z.s, .int .u8 z.k, .bool z.b] 33)
                            generalize wq.alloc (.cells #[.string z.s, .int .u8 z.k, .bool z.b] 33) = Z at *
                            generalize wq.heap.size = bz0 at *
                            clear c0 c1 c2 hg3 hgx hbwq hbq
                            refine (named_any z.s bz _ HBZ.out).mono ?_
                            rintro e w' ⟨rfl, rfl⟩
                            rcases bz with _ | _
                            · go_wp2
                              go_ret
                              refine RightP.no (HBADC.out fun h => ?_) hbwZ
                              have := HBZ.out.2 h.1
                              cases this
                            · have hkind : ((z.k != 1) = false ∧ (z.k = 1 ∨ z.k = 2)) ∨ ((z.k != 1) = true ∧ (z.k != 2) = false ∧ (z.k = 1 ∨ z.k = 2)) ∨ ((z.k != 1) = true ∧ (z.k != 2) = true ∧ ¬ (z.k = 1 ∨ z.k = 2)) := by
                                by_cases h1 : z.k = 1
                                · exact .inl ⟨by simp [h1], .inl h1⟩
                                · by_cases h2 : z.k = 2
                                  · exact .inr (.inl ⟨by simp [h1], by simp [h2], .inr h2⟩)
                                  · exact .inr (.inr ⟨by simp [h1], by simp [h2], by simp [h1, h2]⟩)
                              rcases hkind with ⟨g1, hok⟩ | ⟨g1, g2, hok⟩ | ⟨g1, g2, hok⟩
                              · have HOK := Lib.hid hok
                                clear hok
                                rcases hzb : z.b with _ | _
                                · have HNB := Lib.hid (show (q : Int) < x.k → z.b = false from fun _ => hzb)
                                  rw [hzb] at e2
                                  clear hzb
                                  go_wp2
                                  go_loopw [8] (fun i w' => ∃ j : Nat, j ≤ q ∧ i = .int .i64 j ∧ (∀ (a : Nat) (y : Col), a < j → x.cols[a]? = some y → y.s ≠ z.s) ∧ Below Z.heap.size Z w') (fun i _ => q - (intOf i).toNat)
                                  case atStart => exact ⟨0, Nat.zero_le _, rfl, (fun j x h => absurd h (by omega)), Below.refl _ _⟩
                                  case round =>
                                    rename World => wv
                                    obtain ⟨j3, hj3, rfl, hnm3, hbv⟩ := hrel
                                    have HNM3 := Lib.hid hnm3
                                    clear hnm3
                                    have y0 := cell_below hbv e0
                                    have y1 := cell_below hbv f1
                                    by_cases hjq : j3 < q
                                    · obtain ⟨g4, o4, e4, r0, _, _⟩ := SegC.at_ (SegG.below hsq hbv) (k := j3) (by omega)
                                      injection e4 with e4
                                      injection e4 with e5 e6
                                      subst e5 e6
                                      have hy : x.cols[j3]? = some (x.cols[j3]'(by rw [hsj.1]; omega)) := List.getElem?_eq_getElem _
                                      generalize x.cols[j3]'(by rw [hsj.1]; omega) = y at *
                                      have HY := Lib.hid hy
                                      clear hy
                                      have k0 : (0 : Int) ≤ (j3 : Int) := by omega
                                      have k1 : (j3 : Int) < (m : Int) := by omega
                                      by_cases hyx : y.s = z.s
                                      · have hyb : (y.s.toList == z.s.toList) = true := by rw [hyx]; simp
                                        have HYX := Lib.hid hyx
                                        clear hyx
                                        go_wp2
                                        go_quiet (fail)
                                        go_wp2
                                        go_ret
                                        refine RightP.no (HBADC.out fun h => h.2.2.2 j3 y hjq HY.out HYX.out) ?_
                                        exact below_drewN (Below.next' hbwZ hbv hbwZ.size) _
                                      · have hyb := toList_beq_no hyx
                                        have HYX := Lib.hid hyx
                                        clear hyx
                                        go_wp2
                                        go_quiet (fail)
                                        go_wp2
                                        go_roundw
                                        case rel =>
                                          refine ⟨j3 + 1, hjq, by go_num, fun a v haj hv => ?_, below_drewN hbv _⟩
                                          by_cases e : a = j3
                                          · subst e
                                            obtain rfl : v = y := Option.some.inj (hv.symm.trans HY.out)
                                            exact HYX.out
                                          · exact HNM3.out a v (by omega) hv
                                        case measure => simp [intOf]; omega
                                    · have HJQ := Lib.hid (show j3 = q by omega)
                                      go_wp2
                                      go_roundw
                                      case rel =>
                                        refine ⟨q + 1, hqm, by go_num, fun a v haq hv => ?_, Below.next' hbjZ hbv hbjZ.size⟩
                                        by_cases e : a = q
                                        · subst e
                                          obtain rfl : v = z := Option.some.inj (hv.symm.trans HZ.out)
                                          refine ⟨HBZ.out.1 (by first | rfl | trivial), HOK.out, HNB.out, fun b y hb hy => HNM3.out b y (by rw [HJQ.out]; exact hb) hy⟩
                                        · exact HPC.out a v (by omega) hv
                                      case measure => simp [intOf]; omega
                                · rw [hzb] at e2
                                  have HZB := Lib.hid hzb
                                  clear hzb
                                  by_cases hqk : (q : Int) < x.k
                                  · go_wp2
                                    go_ret
                                    refine RightP.no (HBADC.out fun h => ?_) hbwZ
                                    have := h.2.2.1 hqk
                                    rw [HZB.out] at this
                                    cases this
                                  · have HNB := Lib.hid (show (q : Int) < x.k → z.b = false from fun h => absurd h hqk)
                                    go_wp2
                                    go_loopw [8] (fun i w' => ∃ j : Nat, j ≤ q ∧ i = .int .i64 j ∧ (∀ (a : Nat) (y : Col), a < j → x.cols[a]? = some y → y.s ≠ z.s) ∧ Below Z.heap.size Z w') (fun i _ => q - (intOf i).toNat)
                                    case atStart => exact ⟨0, Nat.zero_le _, rfl, (fun j x h => absurd h (by omega)), Below.refl _ _⟩
                                    case round =>
                                      rename World => wv
                                      obtain ⟨j3, hj3, rfl, hnm3, hbv⟩ := hrel
                                      have HNM3 := Lib.hid hnm3
                                      clear hnm3
                                      have y0 := cell_below hbv e0
                                      have y1 := cell_below hbv f1
                                      by_cases hjq : j3 < q
                                      · obtain ⟨g4, o4, e4, r0, _, _⟩ := SegC.at_ (SegG.below hsq hbv) (k := j3) (by omega)
                                        injection e4 with e4
                                        injection e4 with e5 e6
                                        subst e5 e6
                                        have hy : x.cols[j3]? = some (x.cols[j3]'(by rw [hsj.1]; omega)) := List.getElem?_eq_getElem _
                                        generalize x.cols[j3]'(by rw [hsj.1]; omega) = y at *
                                        have HY := Lib.hid hy
                                        clear hy
                                        have k0 : (0 : Int) ≤ (j3 : Int) := by omega
                                        have k1 : (j3 : Int) < (m : Int) := by omega
                                        by_cases hyx : y.s = z.s
                                        · have hyb : (y.s.toList == z.s.toList) = true := by rw [hyx]; simp
                                          have HYX := Lib.hid hyx
                                          clear hyx
                                          go_wp2
                                          go_quiet (fail)
                                          go_wp2
                                          go_ret
                                          refine RightP.no (HBADC.out fun h => h.2.2.2 j3 y hjq HY.out HYX.out) ?_
                                          exact below_drewN (Below.next' hbwZ hbv hbwZ.size) _
                                        · have hyb := toList_beq_no hyx
                                          have HYX := Lib.hid hyx
                                          clear hyx
                                          go_wp2
                                          go_quiet (fail)
                                          go_wp2
                                          go_roundw
                                          case rel =>
                                            refine ⟨j3 + 1, hjq, by go_num, fun a v haj hv => ?_, below_drewN hbv _⟩
                                            by_cases e : a = j3
                                            · subst e
                                              obtain rfl : v = y := Option.some.inj (hv.symm.trans HY.out)
                                              exact HYX.out
                                            · exact HNM3.out a v (by omega) hv
                                          case measure => simp [intOf]; omega
                                      · have HJQ := Lib.hid (show j3 = q by omega)
                                        go_wp2
                                        go_roundw
                                        case rel =>
                                          refine ⟨q + 1, hqm, by go_num, fun a v haq hv => ?_, Below.next' hbjZ hbv hbjZ.size⟩
                                          by_cases e : a = q
                                          · subst e
                                            obtain rfl : v = z := Option.some.inj (hv.symm.trans HZ.out)
                                            refine ⟨HBZ.out.1 (by first | rfl | trivial), HOK.out, HNB.out, fun b y hb hy => HNM3.out b y (by rw [HJQ.out]; exact hb) hy⟩
                                          · exact HPC.out a v (by omega) hv
                                        case measure => simp [intOf]; omega
                              · have HOK := Lib.hid hok
                                clear hok
                                rcases hzb : z.b with _ | _
                                · have HNB := Lib.hid (show (q : Int) < x.k → z.b = false from fun _ => hzb)
                                  rw [hzb] at e2
                                  clear hzb
                                  go_wp2
                                  go_loopw [8] (fun i w' => ∃ j : Nat, j ≤ q ∧ i = .int .i64 j ∧ (∀ (a : Nat) (y : Col), a < j → x.cols[a]? = some y → y.s ≠ z.s) ∧ Below Z.heap.size Z w') (fun i _ => q - (intOf i).toNat)
                                  case atStart => exact ⟨0, Nat.zero_le _, rfl, (fun j x h => absurd h (by omega)), Below.refl _ _⟩
                                  case round =>
                                    rename World => wv
                                    obtain ⟨j3, hj3, rfl, hnm3, hbv⟩ := hrel
                                    have HNM3 := Lib.hid hnm3
                                    clear hnm3
                                    have y0 := cell_below hbv e0
                                    have y1 := cell_below hbv f1
                                    by_cases hjq : j3 < q
                                    · obtain ⟨g4, o4, e4, r0, _, _⟩ := SegC.at_ (SegG.below hsq hbv) (k := j3) (by omega)
                                      injection e4 with e4
                                      injection e4 with e5 e6
                                      subst e5 e6
                                      have hy : x.cols[j3]? = some (x.cols[j3]'(by rw [hsj.1]; omega)) := List.getElem?_eq_getElem _
                                      generalize x.cols[j3]'(by rw [hsj.1]; omega) = y at *
                                      have HY := Lib.hid hy
                                      clear hy
                                      have k0 : (0 : Int) ≤ (j3 : Int) := by omega
                                      have k1 : (j3 : Int) < (m : Int) := by omega
                                      by_cases hyx : y.s = z.s
                                      · have hyb : (y.s.toList == z.s.toList) = true := by rw [hyx]; simp
                                        have HYX := Lib.hid hyx
                                        clear hyx
                                        go_wp2
                                        go_quiet (fail)
                                        go_wp2
                                        go_ret
                                        refine RightP.no (HBADC.out fun h => h.2.2.2 j3 y hjq HY.out HYX.out) ?_
                                        exact below_drewN (Below.next' hbwZ hbv hbwZ.size) _
                                      · have hyb := toList_beq_no hyx
                                        have HYX := Lib.hid hyx
                                        clear hyx
                                        go_wp2
                                        go_quiet (fail)
                                        go_wp2
                                        go_roundw
                                        case rel =>
                                          refine ⟨j3 + 1, hjq, by go_num, fun a v haj hv => ?_, below_drewN hbv _⟩
                                          by_cases e : a = j3
                                          · subst e
                                            obtain rfl : v = y := Option.some.inj (hv.symm.trans HY.out)
                                            exact HYX.out
                                          · exact HNM3.out a v (by omega) hv
                                        case measure => simp [intOf]; omega
                                    · have HJQ := Lib.hid (show j3 = q by omega)
                                      go_wp2
                                      go_roundw
                                      case rel =>
                                        refine ⟨q + 1, hqm, by go_num, fun a v haq hv => ?_, Below.next' hbjZ hbv hbjZ.size⟩
                                        by_cases e : a = q
                                        · subst e
                                          obtain rfl : v = z := Option.some.inj (hv.symm.trans HZ.out)
                                          refine ⟨HBZ.out.1 (by first | rfl | trivial), HOK.out, HNB.out, fun b y hb hy => HNM3.out b y (by rw [HJQ.out]; exact hb) hy⟩
                                        · exact HPC.out a v (by omega) hv
                                      case measure => simp [intOf]; omega
                                · rw [hzb] at e2
                                  have HZB := Lib.hid hzb
                                  clear hzb
                                  by_cases hqk : (q : Int) < x.k
                                  · go_wp2
                                    go_ret
                                    refine RightP.no (HBADC.out fun h => ?_) hbwZ
                                    have := h.2.2.1 hqk
                                    rw [HZB.out] at this
                                    cases this
                                  · have HNB := Lib.hid (show (q : Int) < x.k → z.b = false from fun h => absurd h hqk)
                                    go_wp2
                                    go_loopw [8] (fun i w' => ∃ j : Nat, j ≤ q ∧ i = .int .i64 j ∧ (∀ (a : Nat) (y : Col), a < j → x.cols[a]? = some y → y.s ≠ z.s) ∧ Below Z.heap.size Z w') (fun i _ => q - (intOf i).toNat)
                                    case atStart => exact ⟨0, Nat.zero_le _, rfl, (fun j x h => absurd h (by omega)), Below.refl _ _⟩
                                    case round =>
                                      rename World => wv
                                      obtain ⟨j3, hj3, rfl, hnm3, hbv⟩ := hrel
                                      have HNM3 := Lib.hid hnm3
                                      clear hnm3
                                      have y0 := cell_below hbv e0
                                      have y1 := cell_below hbv f1
                                      by_cases hjq : j3 < q
                                      · obtain ⟨g4, o4, e4, r0, _, _⟩ := SegC.at_ (SegG.below hsq hbv) (k := j3) (by omega)
                                        injection e4 with e4
                                        injection e4 with e5 e6
                                        subst e5 e6
                                        have hy : x.cols[j3]? = some (x.cols[j3]'(by rw [hsj.1]; omega)) := List.getElem?_eq_getElem _
                                        generalize x.cols[j3]'(by rw [hsj.1]; omega) = y at *
                                        have HY := Lib.hid hy
                                        clear hy
                                        have k0 : (0 : Int) ≤ (j3 : Int) := by omega
                                        have k1 : (j3 : Int) < (m : Int) := by omega
                                        by_cases hyx : y.s = z.s
                                        · have hyb : (y.s.toList == z.s.toList) = true := by rw [hyx]; simp
                                          have HYX := Lib.hid hyx
                                          clear hyx
                                          go_wp2
                                          go_quiet (fail)
                                          go_wp2
                                          go_ret
                                          refine RightP.no (HBADC.out fun h => h.2.2.2 j3 y hjq HY.out HYX.out) ?_
                                          exact below_drewN (Below.next' hbwZ hbv hbwZ.size) _
                                        · have hyb := toList_beq_no hyx
                                          have HYX := Lib.hid hyx
                                          clear hyx
                                          go_wp2
                                          go_quiet (fail)
                                          go_wp2
                                          go_roundw
                                          case rel =>
                                            refine ⟨j3 + 1, hjq, by go_num, fun a v haj hv => ?_, below_drewN hbv _⟩
                                            by_cases e : a = j3
                                            · subst e
                                              obtain rfl : v = y := Option.some.inj (hv.symm.trans HY.out)
                                              exact HYX.out
                                            · exact HNM3.out a v (by omega) hv
                                          case measure => simp [intOf]; omega
                                      · have HJQ := Lib.hid (show j3 = q by omega)
                                        go_wp2
                                        go_roundw
                                        case rel =>
                                          refine ⟨q + 1, hqm, by go_num, fun a v haq hv => ?_, Below.next' hbjZ hbv hbjZ.size⟩
                                          by_cases e : a = q
                                          · subst e
                                            obtain rfl : v = z := Option.some.inj (hv.symm.trans HZ.out)
                                            refine ⟨HBZ.out.1 (by first | rfl | trivial), HOK.out, HNB.out, fun b y hb hy => HNM3.out b y (by rw [HJQ.out]; exact hb) hy⟩
                                          · exact HPC.out a v (by omega) hv
                                        case measure => simp [intOf]; omega
                              · have HOK := Lib.hid hok
                                clear hok
                                go_wp2
                                go_ret
                                exact RightP.no (HBADC.out fun h => HOK.out h.2.1) hbwZ
                          · have HQM := Lib.hid (show q = m by omega)
                            go_wp2
                            go_roundw
                            case rel =>
                              refine ⟨k + 1, hlt, by go_num, fun a y hak hy => ?_, hbwq⟩
                              by_cases e : a = k
                              · subst e
                                obtain rfl : y = x := Option.some.inj (hy.symm.trans HX.out)
                                have hp := HPC.out
                                rw [HQM.out] at hp
                                have hm9 := HML.out
                                exact ⟨HBN.out.1 (by first | rfl | trivial), ⟨by omega, by omega, q1, by omega, PreC.ok hp HML.out⟩, HNM.out⟩
                              · exact HPRE.out a y (by omega) hy
                            case measure => simp [intOf]; omega
                      · have u4 : (m : Int) < x.k := by omega
                        go_wp2
                        go_ret
                        exact RightP.no (HSH.out (by omega)) hbwj
                    · have u3 : x.k < 1 := by omega
                      go_wp2
                      go_ret
                      exact RightP.no (HSH.out (by omega)) hbwj
                  · have u2 : (8 : Int) < (m : Int) := by omega
                    go_wp2
                    go_ret
                    exact RightP.no (HSH.out (by omega)) hbwj
                · have u1 : (m : Int) < 1 := by omega
                  go_wp2
                  go_ret
                  exact RightP.no (HSH.out (by omega)) hbwj
        · have HKN := Lib.hid (show k = n by omega)
          go_wp2
          go_ret
          have hp := HPRE.out
          rw [HKN.out] at hp
          exact RightP.yes (PreT.ok hp HL.out h1 h4) hbw
    · have t2 : (4 : Int) < (n : Int) := by omega
      go_enter Try.func14, Try.ntmps14
      go_wp2
      go_ret
      exact RightP.no (fun h => by have := h.2.1; have := HL.out; omega) (Below.refl _ _)
  · have t1 : (n : Int) < 1 := by omega
    go_enter Try.func14, Try.ntmps14
    go_wp2
    go_ret
    exact RightP.no (fun h => by have := h.1; have := HL.out; omega) (Below.refl _ _)

end Go.Proofs.Ytcmagjeplofagaa
