/-
  The document's example of trees ('back'), and the walk of the law TrieOwn.
-/
import Derived.Test.YtklbacfjobcabaaDoorTR1
import Derived.Test.YtklbacfjobcabaaDoorMemR
import Derived.Lib.SlBytesConst
namespace Go.Proofs.YtklbacfjobcabaaDoor
open Go.RowKit

theorem Own.formsn {w : World} {base : Nat} {e : TypeId} {v : Value} {l : List UInt8} (h : Own w base e v l) (k : Nat) (hk : l.length = k) : ∃ A c, v = .slice A k c ∧ Seg w A k l ∧ k ≤ c ∧ c ≤ maxLen := by
  subst hk
  exact h.forms

set_option maxRecDepth 4000 in
set_option maxHeartbeats 4000000 in
theorem back_any (w : World) (ht : Tab w) :
    Calls Tryd.prog 10 #[] w fun e w' => e = .returned (.bool true) ∧ Below w.heap.size w w' := by
  obtain ⟨K, hK⟩ : ∃ K : ByteArray, (⟨#[97]⟩ : ByteArray) = K := ⟨_, rfl⟩
  have hks : K.size ≤ 1000 := by rw [← hK]; decide
  have hkl : K.data.toList.length = 1 := by rw [← hK]; rfl
  have hkz : K.size = 1 := by rw [← hK]; rfl
  obtain ⟨X, hX⟩ : ∃ X, leafL K.data.toList [49] = X := ⟨_, rfl⟩
  have HX := Lib.hid hX
  have HXL := Lib.hid (show X.length = 7 by rw [← hX, leafL_length, hkl]; rfl)
  obtain ⟨D, hD⟩ : ∃ D : ByteArray, (⟨(sha X).toArray⟩ : ByteArray) = D := ⟨_, rfl⟩
  have HD := Lib.hid hD
  clear hX hD hkl
  go_enter Tryd.func10, Tryd.ntmps10
  rw [hK]
  clear hK
  have kc := Lib.run_convert_bytes_const (P := Tryd.prog) w 29 5 #[.int .u8 49] 1 1 Tryd.underlying29 Tryd.underlying5
  go_wp2_with fail
  refine (put_nil K _ 1 _ [49] _ (Seg.newF _ _ _ _ _ _ rfl rfl) hks (by omega) (Tab.below ht ((Below.refl _ _).alloc (Nat.le_refl _) _))).mono ?_
  rw [HX.out, HD.out]
  rintro e w1 ⟨g, v1, rfl, hl1, hb0⟩
  have hb1 : Below w.heap.size w w1 := Below.next ((Below.refl _ _).alloc (Nat.le_refl _) _) hb0
  clear hb0 kc
  go_wp2_with fail
  refine (del_leaf hl1 hks (Tab.below ht hb1)).mono ?_
  rintro e w2 ⟨rfl, hb2⟩
  have hl2 := hl1.below hb2
  have hbw2 := Below.next' hb1 hb2 hb1.size
  clear hl1 hb1 hb2
  go_wp2_with fail
  refine (nlen_leaf hl2).mono ?_
  rintro e w3 ⟨rfl, rfl⟩
  have kc := Lib.run_convert_bytes_const (P := Tryd.prog) w3 29 5 #[.int .u8 49] 1 1 Tryd.underlying29 Tryd.underlying5
  go_wp2_with fail
  refine (ndigest_leaf hl2).mono ?_
  rintro e w4 ⟨rfl, rfl⟩
  go_wp2_with fail
  refine (rleafB_any K _ 1 _ [49] _ (Seg.newF _ _ _ _ _ _ rfl rfl) (by omega) (by omega)).mono ?_
  rw [HX.out]
  rintro e w5 ⟨v5, rfl, ho5, hb5⟩
  obtain ⟨A5, c5, rfl, hs5, _, _⟩ := ho5.formsn 7 HXL.out
  have hbw5 := Below.next' hbw2 (Below.next ((Below.refl _ _).alloc (Nat.le_refl _) _) hb5) hbw2.size
  clear ho5 hb5 hbw2 hl2 kc
  go_wp2_with fail
  refine (rsum_any A5 7 c5 X _ hs5 (by omega)).mono ?_
  rw [HD.out]
  rintro e w6 ⟨rfl, hb6⟩
  have hbw6 := Below.next' hbw5 hb6 hbw5.size
  go_wp2
  go_ret
  exact ⟨rfl, hbw6⟩

set_option maxRecDepth 8000 in
set_option maxHeartbeats 16000000 in
theorem trieOwn_core (A : Option Addr) (n c : Nat) (l : List UInt8) (y : Int) (w : World) (ha : Seg w A n l) (h1 : n ≤ 40) (ht : Tab w) :
    Calls Tryd.prog 7 #[.slice A n c, .int .u8 y] w fun e w' => e = .returned (.bool true) ∧ Below w.heap.size w w' := by
  have d0 : decide ((40 : Int) < (n : Int)) = false := decide_eq_false (by omega)
  have HLN := Lib.hid ha.1
  obtain ⟨K, hK⟩ : ∃ K : ByteArray, (⟨#[107]⟩ : ByteArray) = K := ⟨_, rfl⟩
  have hks : K.size ≤ 1000 := by rw [← hK]; decide
  have hkl : K.data.toList.length = 1 := by rw [← hK]; rfl
  obtain ⟨X, hX⟩ : ∃ X, leafL K.data.toList l = X := ⟨_, rfl⟩
  have HX := Lib.hid hX
  have HXL := Lib.hid (show X.length = 6 + n by rw [← hX, leafL_length, hkl, ha.1])
  obtain ⟨D, hD⟩ : ∃ D : ByteArray, (⟨(sha X).toArray⟩ : ByteArray) = D := ⟨_, rfl⟩
  have HD := Lib.hid hD
  clear hX hD hkl
  go_enter Tryd.func7, Tryd.ntmps7
  rw [hK]
  clear hK
  go_wp2_with fail
  refine (back_any _ ht).mono ?_
  rintro e w1 ⟨rfl, hb1⟩
  go_wp2_with fail
  refine (join_any A none n 0 c 0 l [] _ (ha.below hb1) (Seg.nil _ _) (by omega)).mono ?_
  rintro e w2 ⟨v2, rfl, ho2, hb2⟩
  rw [List.append_nil] at ho2
  have hbw2 := Below.next' hb1 hb2 hb1.size
  obtain ⟨Aq, cq, rfl, hs2, _, _⟩ := ho2.formsn n HLN.out
  have hwq := own_wr ho2
  have hz1 := hb1.size
  have hz2 := hb2.size
  clear ho2 hb1 hb2
  go_wp2_with fail
  refine (put_nil K Aq n cq l _ hs2 hks (by omega) (Tab.below ht hbw2)).mono ?_
  rw [HX.out, HD.out]
  rintro e w3 ⟨g, v3, rfl, hl3, hb3⟩
  have hwq3 := hwq.below hb3
  have hbw3 := Below.next' hbw2 hb3 hbw2.size
  clear hwq hs2 hb3 hbw2
  go_wp2_with fail
  go_loopw [7] (fun i w' => ∃ j : Nat, j ≤ n ∧ i = .int .i64 j ∧ Wr w' w1.heap.size w2.heap.size Aq n ∧ Lf w' w2.heap.size g K v3 l D ∧ Below w.heap.size w w') (fun i _ => n - (intOf i).toNat)
  case atStart => exact ⟨0, by omega, rfl, hwq3, hl3, hbw3⟩
  case round =>
    clear hwq3 hl3 hbw3
    obtain ⟨j, hj, rfl, hx, hlf, hbw⟩ := hrel
    by_cases hlt : j < n
    · obtain ⟨gx, rfl, hx1, hx2, hxj⟩ := hx (by omega)
      obtain ⟨⟨b0, q0⟩, f0⟩ := hxj j hlt
      clear hxj
      go_wp2
      go_roundw
      case rel =>
        refine ⟨j + 1, hlt, by go_num, hx.set _, hlf.only (only_set _ _ _ _) (fun k hk e => ?_), hbw.setCell (show w.heap.size ≤ gx by omega) _⟩
        have e : k = gx := e
        have := hlf.geS k hk
        omega
      case measure => simp [intOf]; omega
    · obtain rfl : n = j := by omega
      clear hx
      rename World => wa
      go_wp2_with fail
      refine (get_leaf hlf hks (by rw [HLN.out]; omega) (Tab.below ht hbw)).mono ?_
      rintro e w4 ⟨v4, rfl, ho4, hb4⟩
      obtain ⟨Ar, cr, rfl, _, _, _⟩ := ho4.formsn n HLN.out
      have hwr4 := own_wr ho4
      have hlS := hlf.ltS
      have hl4 := hlf.below hb4
      have hbw4 := Below.next' hbw hb4 hbw.size
      have hza := hbw.size
      clear hlf hbw hb4 ho4
      go_wp2_with fail
      go_loopw [10] (fun i w' => ∃ j : Nat, j ≤ n ∧ i = .int .i64 j ∧ Wr w' wa.heap.size w4.heap.size Ar n ∧ Lf w' w2.heap.size g K v3 l D ∧ Below w.heap.size w w') (fun i _ => n - (intOf i).toNat)
      case atStart => exact ⟨0, by omega, rfl, hwr4, hl4, hbw4⟩
      case round =>
        clear hwr4 hl4 hbw4
        obtain ⟨j2, hj2, rfl, hx, hlf, hbw⟩ := hrel
        by_cases hlt2 : j2 < n
        · obtain ⟨gx, rfl, hx1, hx2, hxj⟩ := hx (by omega)
          obtain ⟨⟨b0, q0⟩, f0⟩ := hxj j2 hlt2
          clear hxj
          go_wp2
          go_roundw
          case rel =>
            refine ⟨j2 + 1, hlt2, by go_num, hx.set _, hlf.only (only_set _ _ _ _) (fun k hk e => ?_), hbw.setCell (show w.heap.size ≤ gx by omega) _⟩
            have e : k = gx := e
            have := hlS k hk
            omega
          case measure => simp [intOf]; omega
        · obtain rfl : n = j2 := by omega
          clear hx hlS
          rename World => wb
          go_wp2_with fail
          refine (leaf_leaf hlf (by rw [HLN.out]; omega)).mono ?_
          rintro e w5 ⟨v5, rfl, ho5, hb5⟩
          obtain ⟨Al, cl, rfl, _, _, _⟩ := ho5.formsn n HLN.out
          have hwr5 := own_wr ho5
          have hlS := hlf.ltS
          have hl5 := hlf.below hb5
          have hbw5 := Below.next' hbw hb5 hbw.size
          have hzb := hbw.size
          clear hlf hbw hb5 ho5
          go_wp2_with fail
          go_loopw [14] (fun i w' => ∃ j : Nat, j ≤ n ∧ i = .int .i64 j ∧ Wr w' wb.heap.size w5.heap.size Al n ∧ Lf w' w2.heap.size g K v3 l D ∧ Below w.heap.size w w') (fun i _ => n - (intOf i).toNat)
          case atStart => exact ⟨0, by omega, rfl, hwr5, hl5, hbw5⟩
          case round =>
            clear hwr5 hl5 hbw5
            obtain ⟨j3, hj3, rfl, hx, hlf, hbw⟩ := hrel
            by_cases hlt3 : j3 < n
            · obtain ⟨gx, rfl, hx1, hx2, hxj⟩ := hx (by omega)
              obtain ⟨⟨b0, q0⟩, f0⟩ := hxj j3 hlt3
              clear hxj
              go_wp2
              go_roundw
              case rel =>
                refine ⟨j3 + 1, hlt3, by go_num, hx.set _, hlf.only (only_set _ _ _ _) (fun k hk e => ?_), hbw.setCell (show w.heap.size ≤ gx by omega) _⟩
                have e : k = gx := e
                have := hlS k hk
                omega
              case measure => simp [intOf]; omega
            · obtain rfl : n = j3 := by omega
              clear hx hlS
              rename World => wc
              go_wp2_with fail
              refine (get_leaf hlf hks (by rw [HLN.out]; omega) (Tab.below ht hbw)).mono ?_
              rintro e w6 ⟨v6, rfl, ho6, hb6⟩
              obtain ⟨A6, c6, rfl, hs6, _, _⟩ := ho6.formsn n HLN.out
              have hl6 := hlf.below hb6
              have hbw6 := Below.next' hbw hb6 hbw.size
              have hp6 := ha.below hbw6
              clear hlf hbw hb6 ho6
              go_wp2_with fail
              refine (bytes_any A6 A n n c6 c l l _ hs6 hp6 (by simp only [maxLen]; omega)).mono ?_
              rintro e w7 ⟨rfl, u, rfl⟩
              rw [show (l == l) = true by simp]
              have hDr := Below.drewN' (Below.refl w6.heap.size w6) u
              have hl7 := hl6.below hDr
              have hbw7 := Below.drewN' hbw6 u
              clear hl6 hbw6 hs6 hp6 hDr
              generalize w6.drewN u = w7 at *
              go_wp2_with fail
              refine (ndigest_leaf hl7).mono ?_
              rintro e w8 ⟨rfl, rfl⟩
              go_wp2_with fail
              refine (rleafB_any K A n c l _ (ha.below hbw7) (by omega) (by omega)).mono ?_
              rw [HX.out]
              rintro e w9 ⟨v9, rfl, ho9, hb9⟩
              obtain ⟨A9, c9, rfl, hs9, _, _⟩ := ho9.formsn (6 + n) HXL.out
              have hbw9 := Below.next' hbw7 hb9 hbw7.size
              clear ho9 hb9 hbw7 hl7
              go_wp2_with fail
              refine (rsum_any A9 (6 + n) c9 X _ hs9 (by omega)).mono ?_
              rw [HD.out]
              rintro e w10 ⟨rfl, hb10⟩
              have hbw10 := Below.next' hbw9 hb10 hbw9.size
              clear hbw9 hb10 hs9 HX HXL HD HLN ha ht
              go_wp2
              go_ret
              exact ⟨rfl, hbw10⟩

set_option maxRecDepth 8000 in
set_option maxHeartbeats 4000000 in
theorem trieOwn_long (A : Option Addr) (n c : Nat) (y : Int) (w : World) (h : 40 < n) (ht : Tab w) :
    Calls Tryd.prog 7 #[.slice A n c, .int .u8 y] w fun e w' => e = .returned (.bool true) ∧ Below w.heap.size w w' := by
  have d0 : decide ((40 : Int) < (n : Int)) = true := decide_eq_true (by omega)
  go_enter Tryd.func7, Tryd.ntmps7
  go_wp2_with fail
  refine (back_any _ ht).mono ?_
  rintro e w1 ⟨rfl, hb1⟩
  go_wp2_with fail
  refine (back_any _ (Tab.below ht hb1)).mono ?_
  rintro e w2 ⟨rfl, hb2⟩
  go_wp2
  go_ret
  exact ⟨rfl, Below.next' hb1 hb2 hb1.size⟩

theorem trieOwn_walk (A : Option Addr) (n c : Nat) (l : List UInt8) (y : Int) (w : World) (ha : Seg w A n l) (_ : n ≤ c) (_ : c ≤ maxLen) (_ : (Lit.int .u8 y).wf = true) (ht : Tab w) :
    Calls Tryd.prog 7 #[.slice A n c, .int .u8 y] w fun e w' => e = .returned (.bool true) ∧ Below w.heap.size w w' := by
  by_cases h : n ≤ 40
  · exact trieOwn_core A n c l y w ha h ht
  · exact trieOwn_long A n c y w (by omega) ht

end Go.Proofs.YtklbacfjobcabaaDoor
