/-
  The walk of the document's Back.
-/
import Derived.Test.YtcmagjeplofagaaWB2
namespace Go.Proofs.Ytcmagjeplofagaa
open Go.RowKit

theorem unText_ne (b : UInt8) (p : List UInt8) (h : b ≠ 0) : unText (b :: p) = (unText p).map (fun x => (b :: x.1, x.2)) := by
  rcases p with _ | ⟨c, p⟩
  · rfl
  · rw [unText, if_neg h]

theorem wrapNum (x : Nat) (h : x < 18446744073709551616) : wrap64 (IntKind.u64.wrap ((x : Int) - 9223372036854775808)) = (x : Int) - 9223372036854775808 := by
  rw [u64N_eq, i64Z_eq _ (u64N_lt _)]
  unfold i64Z u64N
  split <;> omega

def backR : Option (V × List UInt8) → Option (List V)
  | none => none
  | some (v, r) => (back r).map (v :: ·)
theorem back_consR (b : UInt8) (p : List UInt8) : back (b :: p) = backR (back1 b p) := by
  rw [back_cons]
  rcases back1 b p with _ | ⟨v, r⟩ <;> rfl
theorem back1_2s (p : List UInt8) (h : p.length < 8) : back1 2 p = none := by
  show (if p.length < 8 then none else _) = none
  rw [if_pos h]
theorem back1_2l (p : List UInt8) (h : ¬ p.length < 8) : back1 2 p = some (⟨1, unNum (p.take 8), ⟨#[]⟩⟩, p.drop 8) := by
  show (if p.length < 8 then none else _) = _
  rw [if_neg h]
theorem back1_3n (p : List UInt8) (h : unText p = none) : back1 3 p = none := by rw [back1_3, h]
theorem back1_3y (p t r : List UInt8) (h : unText p = some (t, r)) : back1 3 p = if t.length ≤ 200 then some (⟨2, 0, ⟨t.toArray⟩⟩, r) else none := by rw [back1_3, h]

theorem BackP.no {w w' : World} {l : List UInt8} (h : back l = none) (hb : Below w.heap.size w w') : BackP w l (.returned (.tuple #[.slice none 0 0, .int .i64 2])) w' :=
  ⟨_, by rw [h]; rfl, by rw [h]; exact OwnV.nil _ _ _, hb⟩

set_option maxRecDepth 8000 in
set_option maxHeartbeats 4000000 in
theorem rback_any (A : Option Addr) (n c : Nat) (l : List UInt8) (w : World) (ha : Seg w A n l) (hnc : n ≤ c) (_ : c ≤ maxLen) (hn : n ≤ 1000000) :
    Calls Try.prog 26 #[.slice A n c] w (BackP w l) := by
  have hl := ha.1
  go_enter Try.func26, Try.ntmps26
  go_wp2
  go_loopw [4, 5, 6, 7, 8] (fun p i _ _ _ w' => ∃ (k : Nat) (d : List V), k ≤ n ∧ i = .int .i64 k ∧ back l = (back (l.drop k)).map (d ++ ·) ∧ d.length ≤ k ∧ OwnV w' w.heap.size 41 p d ∧ Below w.heap.size w w') (fun _ i _ _ _ _ => n - (intOf i).toNat)
  case atStart => exact ⟨0, [], Nat.zero_le _, rfl, by simp, Nat.le_refl _, OwnV.nil _ _ _, Below.refl _ _⟩
  case round =>
    rename World => wo
    obtain ⟨k, d, hk, rfl, hbk, hdk, hod, hbw⟩ := hrel
    have HBK := Lib.hid hbk
    clear hbk
    have hwo := hbw.size
    obtain ⟨Ad, cd, rfl, hsd, hlcd, hcmd⟩ := hod.forms
    by_cases hlt : k < n
    · obtain ⟨g, o, rfl, hc0⟩ := (ha.below hbw).at_ hlt
      have hg : g < wo.heap.size := World.block_lt_of_cell? wo _ hc0
      have hdrop : l.drop k = l[k]'(by omega) :: l.drop (k + 1) := List.drop_eq_getElem_cons (by omega)
      generalize l[k]'(by omega) = b at *
      have hstep : back l = (backR (back1 b (l.drop (k + 1)))).map (d ++ ·) := by
        rw [HBK.out, hdrop, back_consR]
      have HST := Lib.hid hstep
      clear hstep hdrop HBK
      by_cases h1 : b = 1
      · subst h1
        go_wp2_with (first
          | (at_builtin
             refine wpList_append_vals _ rfl (.tmp 22) (.tmp 24) _ _ vt rfl w.heap.size _ _ rfl (hod.alloc _) _ 1 1 [V.none] rfl (SegV.newAt _ _ _ _ _ _ rfl rfl rfl) (by omega) (by simp; omega) ?_
             intro v2 w2 hown2 hg2 hat2))
        go_roundw
        case rel =>
          refine ⟨k + 1, d ++ [V.none], hlt, by go_num, ?_, by simp; omega, hown2, below_grownV (hbw.alloc hbw.size _) (hod.alloc _) hg2 (Nat.le_refl _) (by simp; omega)⟩
          rw [HST.out]
          show ((back (l.drop (k + 1))).map (V.none :: ·)).map (d ++ ·) = _
          rw [Option.map_map]
          congr 1
          funext x
          simp
        case measure => simp [intOf]; omega
      · have z1 : ((b.toNat : Int) == 1) = false := by
          rw [beq_eq_false_iff_ne]; intro h; exact h1 (UInt8.toNat_inj.1 (by show b.toNat = 1; omega))
        by_cases h2 : b = 2
        · subst h2
          clear z1 h1
          by_cases h8 : n < k + 9
          · have h8' : (n : Int) - ((k : Int) + 1) < 8 := by omega
            have hno : back l = none := by
              rw [HST.out, back1_2s _ (by rw [List.length_drop]; omega)]
              rfl
            have HNO := Lib.hid hno
            clear hno HST
            go_wp2
            go_ret2
            exact BackP.no HNO.out hbw
          · have h8' : ¬ (n : Int) - ((k : Int) + 1) < 8 := by omega
            obtain ⟨q, hq⟩ : ∃ q, (l.drop (k + 1)).take 8 = q := ⟨_, rfl⟩
            have hst : back l = ((back (l.drop (k + 9))).map ((⟨1, unNum q, ⟨#[]⟩⟩ : V) :: ·)).map (d ++ ·) := by
              rw [HST.out, back1_2l _ (by rw [List.length_drop]; omega), hq, List.drop_drop]
              rfl
            have hql : q.length = 8 := by rw [← hq, List.length_take, List.length_drop]; omega
            have hqs : Seg wo (some ⟨g, o + (k + 1), none⟩) 8 q := by
              rw [← hq]
              have h := (ha.below hbw).from_ (k + 1) c (by omega) hnc
              rw [if_neg (by omega)] at h
              exact h.upto 8 (by omega)
            have hqlt := rdN_lt' q 8 (by omega)
            have hwn : wrap64 (IntKind.u64.wrap ((rdN q : Int) - 9223372036854775808)) = unNum q := wrapNum (rdN q) hqlt
            have HS2 := Lib.hid hst
            have HQL := Lib.hid hql
            clear hst hq HST hql
            go_wp2_with fail
            refine (read_any _ 8 _ q _ hqs (by omega)).mono ?_
            rintro e w1 ⟨rfl, rfl⟩
            go_wp2_with (first
              | (at_builtin
                 refine wpList_append_vals _ rfl (.tmp 33) (.tmp 43) _ _ vt rfl w.heap.size _ _ rfl (hod.alloc _) _ 1 1 [⟨1, unNum q, ⟨#[]⟩⟩] rfl (SegV.newAt _ _ _ _ _ _ rfl rfl rfl) (by omega) (by simp; omega) ?_
                 intro v2 w2 hown2 hg2 hat2))
            go_roundw
            case rel =>
              refine ⟨k + 9, d ++ [⟨1, unNum q, ⟨#[]⟩⟩], by omega, by go_num, ?_, by simp; omega, hown2, below_grownV (hbw.alloc hbw.size _) (hod.alloc _) hg2 (Nat.le_refl _) (by simp; omega)⟩
              rw [HS2.out, Option.map_map]
              congr 1
              funext x
              simp
            case measure => simp [intOf]; omega
        · have z2 : ((b.toNat : Int) == 2) = false := by
            rw [beq_eq_false_iff_ne]; intro h; exact h2 (UInt8.toNat_inj.1 (by show b.toNat = 2; omega))
          by_cases h3 : b = 3
          · subst h3
            clear z1 z2 h1 h2
            have HST3 : Hid (back l = (backR (back1 3 (l.drop (k + 1)))).map (d ++ ·)) := HST
            clear HST
            go_wp2
            go_loopw [5, 7, 8] (fun i p _ w' => ∃ (j : Nat) (t : List UInt8), k + 1 ≤ j ∧ j ≤ n ∧ i = .int .i64 j ∧ unText (l.drop (k + 1)) = (unText (l.drop j)).map (fun x => (t ++ x.1, x.2)) ∧ t.length ≤ j ∧ Own w' wo.heap.size 5 p t ∧ Below wo.heap.size wo w') (fun i _ _ _ => n - (intOf i).toNat)
            case atStart => exact ⟨k + 1, [], Nat.le_refl _, hlt, by go_num, by simp, by simp, Own.nil _ _ _, Below.refl _ _⟩
            case round =>
              obtain ⟨j, t, hkj, hj, rfl, hut, htj, hot, hbr⟩ := hrel
              have HUT := Lib.hid hut
              clear hut
              have hwr := hbr.size
              obtain ⟨At, ct, rfl, hst, hlct, hcmt⟩ := hot.forms
              have hsr := (ha.below hbw).below hbr
              have hbwr : Below w.heap.size w wr := Below.next' hbw hbr hwo
              by_cases hjn : j < n
              · have e0 := hsr.cell rfl (k := j) hjn
                have hdrop : l.drop j = l[j]'(by omega) :: l.drop (j + 1) := List.drop_eq_getElem_cons (by omega)
                generalize l[j]'(by omega) = b0 at *
                have HD0 := Lib.hid hdrop
                clear hdrop
                by_cases hb0 : b0 = 0
                · have z0 : ((b0.toNat : Int) != 0) = false := by rw [hb0]; rfl
                  have HB0 := Lib.hid hb0
                  clear hb0
                  by_cases hj1 : j + 1 < n
                  · have hj1' : (j : Int) + 1 < (n : Int) := by omega
                    have e1 := hsr.cell rfl (k := j + 1) hj1
                    have hdrop1 : l.drop (j + 1) = l[j + 1]'(by omega) :: l.drop (j + 2) := List.drop_eq_getElem_cons (by omega)
                    generalize l[j + 1]'(by omega) = b1 at *
                    have HD1 := Lib.hid hdrop1
                    clear hdrop1
                    by_cases hb1 : b1 = 255
                    · have z1 : ((b1.toNat : Int) != 255) = false := by rw [hb1]; rfl
                      have z2 : ((b1.toNat : Int) == 1) = false := by rw [hb1]; rfl
                      have HB1 := Lib.hid hb1
                      clear hb1
                      go_wp2_with (first
                        | (at_builtin
                           refine wpList_append_seg _ rfl (.tmp 91) (.tmp 92) _ _ bt rfl wo.heap.size _ t rfl (hot.alloc _) _ 1 1 [0] rfl (Seg.one _ _ _ 0 rfl) (by omega) (by simp; omega) ?_
                           intro v2 w2 ho2 hg2 _
                           obtain ⟨t2, ht2⟩ : ∃ t2, t ++ [0] = t2 := ⟨_, rfl⟩
                           have hl2 : t2.length ≤ t.length + 1 := by rw [← ht2]; simp
                           have hbw2 := below_grown (hbr.alloc (by omega) _) (hot.alloc _) hg2 (Nat.le_refl _) (by simp; omega)
                           rw [ht2] at ho2
                           have HT2 := Lib.hid ht2
                           clear ht2 hg2
                           obtain ⟨A2, c2, rfl, hs2, hlc2, hcm2⟩ := ho2.forms))
                      go_roundw
                      case rel =>
                        refine ⟨j + 2, t2, by omega, by omega, by go_num, ?_, by omega, ho2, hbw2⟩
                        rw [HUT.out, HD0.out, HD1.out, HB0.out, HB1.out, unText, if_pos rfl, if_pos rfl, ← HT2.out, Option.map_map]
                        congr 1
                        funext x
                        simp
                      case measure => simp [intOf]; omega
                    · have z1 : ((b1.toNat : Int) != 255) = true := by
                        rw [bne_iff_ne]; intro h; exact hb1 (UInt8.toNat_inj.1 (by show b1.toNat = 255; omega))
                      by_cases hb2 : b1 = 1
                      · have z2 : ((b1.toNat : Int) == 1) = true := by rw [hb2]; rfl
                        have z3 : ((b1.toNat : Int) != 1) = false := by rw [hb2]; rfl
                        have hut : unText (l.drop (k + 1)) = some (t, l.drop (j + 2)) := by
                          rw [HUT.out, HD0.out, HD1.out, HB0.out, hb2, unText, if_pos rfl, if_neg (by decide), if_pos rfl]
                          simp
                        have hS := HST3.out
                        rw [back1_3y _ _ _ hut] at hS
                        clear hut hb1 hb2 HST3 HUT
                        by_cases h200 : t.length ≤ 200
                        · rw [if_pos h200] at hS
                          have h200' : ¬ (200 : Int) < (t.length : Int) := by omega
                          have kc := run_string_seg (P := Try.prog) wr 31 9 5 bt Try.underlying9 At t.length ct t hst
                          obtain ⟨s, hs⟩ : ∃ s : ByteArray, (⟨t.toArray⟩ : ByteArray) = s := ⟨_, rfl⟩
                          rw [hs] at kc hS
                          have HS3 := Lib.hid hS
                          clear hS hs
                          have hodr := hod.below hbr
                          go_wp2_with (first
                            | (at_builtin
                               refine wpList_append_vals _ rfl (.tmp 97) (.tmp 101) _ _ vt rfl w.heap.size _ _ rfl (hodr.alloc _) _ 1 1 [⟨2, 0, s⟩] rfl (SegV.newAt _ _ _ _ _ _ rfl rfl rfl) (by omega) (by simp; omega) ?_
                               intro v2 w2 hown2 hg2 hat2))
                          go_roundw
                          case rel =>
                            refine ⟨j + 2, d ++ [⟨2, 0, s⟩], by omega, by go_num, ?_, by simp; omega, hown2, below_grownV (hbwr.alloc hbwr.size _) (hodr.alloc _) hg2 (Nat.le_refl _) (by have := hbwr.size; simp; omega)⟩
                            rw [HS3.out]
                            show ((back (l.drop (j + 2))).map ((⟨2, 0, s⟩ : V) :: ·)).map (d ++ ·) = _
                            rw [Option.map_map]
                            congr 1
                            funext x
                            simp
                          case measure => simp [intOf]; omega
                        · rw [if_neg h200] at hS
                          have h200' : (200 : Int) < (t.length : Int) := by omega
                          have HS3 := Lib.hid hS
                          clear hS
                          go_wp2
                          go_ret2
                          exact BackP.no HS3.out hbwr
                      · have z3 : ((b1.toNat : Int) != 1) = true := by
                          rw [bne_iff_ne]; intro h; exact hb2 (UInt8.toNat_inj.1 (by show b1.toNat = 1; omega))
                        have hno : back l = none := by
                          rw [HST3.out, back1_3n _ (by rw [HUT.out, HD0.out, HD1.out, HB0.out, unText, if_pos rfl, if_neg hb1, if_neg hb2]; rfl)]
                          rfl
                        have HNO := Lib.hid hno
                        clear hno hb1 hb2
                        go_wp2
                        go_ret2
                        exact BackP.no HNO.out hbwr
                  · have hj1' : ¬ (j : Int) + 1 < (n : Int) := by omega
                    have hno : back l = none := by
                      rw [HST3.out, back1_3n _ (by rw [HUT.out, unText_short _ (by rw [List.length_drop]; omega)]; rfl)]
                      rfl
                    have HNO := Lib.hid hno
                    clear hno
                    go_wp2
                    go_ret2
                    exact BackP.no HNO.out hbwr
                · have z0 : ((b0.toNat : Int) != 0) = true := by
                    rw [bne_iff_ne]; intro h; exact hb0 (UInt8.toNat_inj.1 (by simpa using h))
                  have HB0 := Lib.hid hb0
                  clear hb0
                  go_wp2_with (first
                    | (at_builtin
                       refine wpList_append_seg _ rfl (.tmp 61) (.tmp 63) _ _ bt rfl wo.heap.size _ t rfl (hot.alloc _) _ 1 1 [b0] rfl (Seg.one _ _ _ _ rfl) (by omega) (by simp; omega) ?_
                       intro v2 w2 ho2 hg2 _
                       obtain ⟨t2, ht2⟩ : ∃ t2, t ++ [b0] = t2 := ⟨_, rfl⟩
                       have hl2 : t2.length ≤ t.length + 1 := by rw [← ht2]; simp
                       have hbw2 := below_grown (hbr.alloc (by omega) _) (hot.alloc _) hg2 (Nat.le_refl _) (by simp; omega)
                       rw [ht2] at ho2
                       have HT2 := Lib.hid ht2
                       clear ht2 hg2
                       obtain ⟨A2, c2, rfl, hs2, hlc2, hcm2⟩ := ho2.forms))
                  go_roundw
                  case rel =>
                    refine ⟨j + 1, t2, by omega, by omega, by go_num, ?_, by omega, ho2, hbw2⟩
                    rw [HUT.out, HD0.out, unText_ne _ _ HB0.out, ← HT2.out, Option.map_map]
                    congr 1
                    funext x
                    simp
                  case measure => simp [intOf]; omega
              · have hno : back l = none := by
                  rw [HST3.out, back1_3n _ (by rw [HUT.out, unText_short _ (by rw [List.length_drop]; omega)]; rfl)]
                  rfl
                have HNO := Lib.hid hno
                clear hno
                go_wp2
                go_ret2
                exact BackP.no HNO.out hbwr
          · have z3 : ((b.toNat : Int) == 3) = false := by
              rw [beq_eq_false_iff_ne]; intro h; exact h3 (UInt8.toNat_inj.1 (by show b.toNat = 3; omega))
            have hno : back l = none := by
              rw [HST.out]
              unfold back1
              rw [if_neg h1, if_neg h2, if_neg h3]
              rfl
            have HNO := Lib.hid hno
            clear hno h1 h2 h3
            go_wp2
            go_ret2
            exact BackP.no HNO.out hbw
    · go_wp2
      go_ret2
      have e : back l = some d := by
        rw [HBK.out, List.drop_of_length_le (by omega)]
        simp [back, backF]
      exact ⟨_, by rw [e]; rfl, by rw [e]; exact hod, hbw⟩

end Go.Proofs.Ytcmagjeplofagaa
