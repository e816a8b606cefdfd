/-
  The walk of the law TableChecks.
-/
import Derived.Test.YtcmagjeplofagaaL31
import Derived.Test.YtcmagjeplofagaaMemS3
import Derived.Deep.DeepCutAuto
namespace Go.Proofs.Ytcmagjeplofagaa
open Go.RowKit

/-- Two rows of values of the call's own, in memory that is not the same. -/
def FK (b : Nat) (w2 : World) (u v : Value) (wc : World) : Prop :=
  ∃ F G : List V, OwnV wc w2.heap.size 41 u F ∧ OwnV wc w2.heap.size 41 v G ∧ F.length ≤ b ∧ G.length ≤ b ∧ (u.ownBlock = none ∨ u.ownBlock ≠ v.ownBlock) ∧ Below w2.heap.size w2 wc

theorem OwnV.len_ {w : World} {B : Nat} {e : TypeId} {A : Option Addr} {n c : Nat} {l : List V} (h : OwnV w B e (.slice A n c) l) : l.length = n := by
  obtain ⟨A', c', e', _⟩ := h.forms
  injection e' with _ e' _
  exact e'.symm
theorem FK.below {b : Nat} {w2 w w' : World} {u v : Value} (h : FK b w2 u v w) (hb : Below w.heap.size w w') : FK b w2 u v w' := by
  obtain ⟨F, G, h1, h2, h3, h4, h5, h6⟩ := h
  exact ⟨F, G, h1.below hb, h2.below hb, h3, h4, h5, Below.next' h6 hb h6.size⟩
theorem sep_first {X w1 : World} {B : Nat} {u u1 v : Value} {G : List V} (hG : OwnV X B 41 v G) (hne : u.ownBlock = none ∨ u.ownBlock ≠ v.ownBlock) (hg : X.grownBy w1 u.ownBlock) (hat : u1.ownBlock = u.ownBlock ∨ u1.ownBlock = some X.heap.size) :
    OwnV w1 B 41 v G ∧ (u1.ownBlock = none ∨ u1.ownBlock ≠ v.ownBlock) := by
  refine ⟨hG.kept hg ?_, ?_⟩
  · rcases hq : v.ownBlock with _ | z
    · exact .inl rfl
    · rcases hne with h | h
      · rw [h]; exact .inr (by simp)
      · rw [hq] at h; exact .inr (Ne.symm h)
  · rcases hat with h | h
    · rw [h]; exact hne
    · rw [h]
      refine .inr fun e => ?_
      have := (hG.lt _ e.symm).2
      omega
theorem sep_second {X w1 : World} {B : Nat} {u v v1 : Value} {F : List V} (hF : OwnV X B 41 u F) (hne : u.ownBlock = none ∨ u.ownBlock ≠ v.ownBlock) (hg : X.grownBy w1 v.ownBlock) (hat : v1.ownBlock = v.ownBlock ∨ v1.ownBlock = some X.heap.size) :
    OwnV w1 B 41 u F ∧ (u.ownBlock = none ∨ u.ownBlock ≠ v1.ownBlock) := by
  refine ⟨hF.kept hg hne, ?_⟩
  rcases hat with h | h
  · rw [h]; exact hne
  · rw [h]
    rcases hq : u.ownBlock with _ | z
    · exact .inl rfl
    · refine .inr fun e => ?_
      injection e with e
      have := (hF.lt _ hq).2
      omega
theorem cell_far3' {w : World} {k i j m : Nat} {x0 x1 x2 v : Value} (hne : i ≠ j) (h : w.cell? ⟨j, m, none⟩ = some v) : (((w.setCell ⟨i, k, none⟩ x0).setCell ⟨i, k + 1, none⟩ x1).setCell ⟨i, k + 2, none⟩ x2).cell? ⟨j, m, none⟩ = some v := by
  have f : ∀ {w : World} {p : Addr} {u : Value}, p.block ≠ j → w.cell? ⟨j, m, none⟩ = some v → (w.setCell p u).cell? ⟨j, m, none⟩ = some v := fun {w p u} hp h =>
    (World.cell?_setCell_other w p ⟨j, m, none⟩ u (fun e => hp (by rw [e]))).trans h
  exact f hne (f hne (f hne h))
theorem tmod_abs (t : Int) (N : Nat) (hN : 0 < N) : ∃ k : Nat, k < N ∧ ((t.tmod (N : Int) < 0 ∧ -(t.tmod (N : Int)) = (k : Int)) ∨ (0 ≤ t.tmod (N : Int) ∧ t.tmod (N : Int) = (k : Int))) := by
  have h1 := Int.tmod_lt_of_pos t (show (0 : Int) < (N : Int) by omega)
  have h2 : -(N : Int) < t.tmod (N : Int) := by
    have := Int.tmod_lt_of_pos (-t) (show (0 : Int) < (N : Int) by omega)
    rw [Int.neg_tmod] at this
    omega
  by_cases h : t.tmod (N : Int) < 0
  · exact ⟨(-(t.tmod (N : Int))).toNat, by omega, .inl ⟨h, by omega⟩⟩
  · exact ⟨(t.tmod (N : Int)).toNat, by omega, .inr ⟨by omega, by omega⟩⟩

set_option maxHeartbeats 4000000 in
set_option maxRecDepth 8000 in
theorem tableChecks_core (A : Option Addr) (n c : Nat) (L : List Frm) (t : Int) (Ba : Option Addr) (na ca : Nat) (la : List UInt8) (at_ : Nat) (x : V) (odd : Bool) (more : Nat) (w : World)
    (ha : SegF w A n L) (hcn : n ≤ maxLen) (ht0 : -9223372036854775808 ≤ t) (ht1 : t ≤ 9223372036854775807) (hpa : Seg w Ba na la) (hat : at_ ≤ 255) (hx : x.Wide) (hmo : more ≤ 255) (hna : na ≤ 12) (hfew : fewB L = true) :
    Calls Try.prog 4 #[.slice A n c, .int .i64 t, .slice Ba na ca, .int .u8 (at_ : Int), .agg #[.int .u8 x.k, .int .i64 x.n, .string x.s], .bool odd, .int .u8 (more : Int)] w fun e w' => e = .returned (.bool true) ∧ Below w.heap.size w w' := by
  have hn6 : n ≤ 6 := by
    have := (Bool.and_eq_true _ _ ▸ hfew : _ ∧ _).2
    rw [decide_eq_true_eq, ha.len] at this
    exact this
  have h1' : decide ((12 : Int) < (na : Int)) = false := decide_eq_false (by omega)
  have hat' : (at_ : Int) ≤ 255 := by omega
  have hmo' : (more : Int) ≤ 255 := by omega
  obtain ⟨r, hr⟩ : ∃ r : Nat, (more : Int) % 4 = (r : Int) := ⟨more % 4, by omega⟩
  go_enter Try.func4, Try.ntmps4
  go_wp2_with fail
  refine (tnoughts_any _).mono ?_
  rintro e w1 ⟨rfl, hb1⟩
  obtain ⟨p0, p1, p2, _, hsz1⟩ := box3 hb1
  have hbw1 : Below w.heap.size w w1 := Below.next' ((Below.refl _ _).alloc (Nat.le_refl _) _) hb1 (by simp)
  replace ha := SegF.below ha hbw1
  replace hpa := hpa.below hbw1
  clear hb1
  go_wp2_with fail
  refine (few_any A n c L true _ ha hcn hfew).mono ?_
  rintro e w' ⟨rfl, rfl⟩
  go_wp2_with fail
  refine (tables_seg A n c L _ ha (by omega)).mono ?_
  rintro e w2 ⟨Ax, N, cx, T, rfl, hsx, hNc, hcm, hOk, hN1, hN4, hb2⟩
  have hbw2 : Below w.heap.size w w2 := Below.next' hbw1 hb2 hbw1.size
  replace hpa := hpa.below hb2
  replace p0 := cell_below hb2 p0
  replace p1 := cell_below hb2 p1
  replace p2 := cell_below hb2 p2
  have hw2 : w.heap.size < w2.heap.size := World.block_lt_of_cell? w2 _ p0
  clear hb2 ha
  obtain ⟨k, hkN, hk⟩ := tmod_abs t N (by omega)
  have hne0 : ((N : Int) == 0) = false := by rw [beq_eq_false_iff_ne]; omega
  have HK := Lib.hid hk
  clear hk hr
  go_upto_if 40 with fail
  go_cut [16] from 20 (fun v wc => v = .int .i64 (k : Int) ∧ wc = w2)
  case first =>
    have hk := HK.out
    generalize t.tmod (N : Int) = r0 at *
    rcases hk with ⟨g1, g2⟩ | ⟨g1, g2⟩
    · have g3 : -4 < r0 := by omega
      have G2 := Lib.hid g2
      clear g2
      go_wp2_with fail
      go_meet
      case rel => exact ⟨by rw [G2.out], rfl⟩
    · subst g2
      go_wp2_with fail
      go_meet
      case rel => exact ⟨rfl, rfl⟩
  case rest =>
    obtain ⟨rfl, rfl⟩ := hcut
    have hk0 : (0 : Int) ≤ (k : Int) := by omega
    have hk1 : (k : Int) < (N : Int) := by omega
    have hy := hOk.2.2.2.2 (T[k]'(by rw [hsx.len]; exact hkN)) (List.getElem_mem _)
    obtain ⟨g, o, B, m, cc, rfl, h0, h1, h2, hsc, hmc, hccm⟩ := SegT.at_ hsx hkN
    obtain ⟨y, hye⟩ : ∃ y, T[k]'(by rw [hsx.len]; exact hkN) = y := ⟨_, rfl⟩
    have HYE := Lib.hid hye
    rw [hye] at h0 h2 hsc hy
    obtain ⟨hy1, hy8, hyk1, hyk2, hyc⟩ := hy
    obtain ⟨K, hK⟩ : ∃ K : Nat, y.k = (K : Int) := ⟨y.k.toNat, by omega⟩
    rw [hK] at h2 hyk1 hyk2
    have hml := hsc.1
    have hm8 : m ≤ 8 := by omega
    have hKm : K ≤ m := by omega
    have hK1 : 1 ≤ K := by omega
    have HKK := Lib.hid hK
    have HML := Lib.hid hml
    have htk : y.cols.take m = y.cols := List.take_of_length_le (by omega)
    have HTK := Lib.hid htk
    have hky : ∀ c ∈ y.cols, c.k = 1 ∨ c.k = 2 := hyc.2.2.1
    clear hye hK hml htk HK
    go_wp2
    go_region_held3 (fun W' => W'.cell? ⟨g, o + k * 3, none⟩ = some (.string y.s) ∧ W'.cell? ⟨g, o + k * 3 + 1, none⟩ = some (.slice B m cc) ∧ W'.cell? ⟨g, o + k * 3 + 2, none⟩ = some (.int .i64 (K : Int)) ∧ Below wc.heap.size wc W')
      (first | exact ⟨h0, h1, h2, (Below.refl _ _).drew⟩ | exact ⟨cell_below hB h0, cell_below hB h1, cell_below hB h2, hB⟩)
      (first
        | (go_at_call 15
           refine (fitR_any y.s (K : Int) B Ba m na cc ca y.cols la m _ (SegG.below hsc (‹_ ∧ _ ∧ _ ∧ Below _ _ _›).2.2.2) (hpa.below (‹_ ∧ _ ∧ _ ∧ Below _ _ _›).2.2.2) (by omega) (by omega) (Nat.le_refl _)).mono ?_
           rw [HTK.out]
           rintro e w3 ⟨v3, rfl, ho3, hb3⟩
           have hB : Below wc.heap.size wc w3 := Below.next (‹_ ∧ _ ∧ _ ∧ Below _ _ _›).2.2.2 hb3))
    have hfk := fitL_fit y.cols la hky
    have hfk2 := fitL_fit (y.cols.take K) la (fun c hc => hky c (List.mem_of_mem_take hc))
    have hl3 : (fitVals y.cols la 0).length = m := by rw [fitVals_length, HML.out]
    have hl4 : (fitVals (y.cols.take K) la 0).length = K := by rw [fitVals_length, List.length_take, HML.out]; omega
    have ho3' : OwnV w3 wc.heap.size 41 v3 (fitVals y.cols la 0) := ho3.mono (Nat.le_refl _)
    have hb3' := hB
    replace h0 := cell_below hB h0
    replace h1 := cell_below hB h1
    replace h2 := cell_below hB h2
    have hsc3 := SegG.below hsc hB
    have hpa3 := hpa.below hB
    clear hB hb3 ho3
    go_wp2
    go_region_held3 (fun W' => W'.cell? ⟨g, o + k * 3, none⟩ = some (.string y.s) ∧ W'.cell? ⟨g, o + k * 3 + 1, none⟩ = some (.slice B m cc) ∧ W'.cell? ⟨g, o + k * 3 + 2, none⟩ = some (.int .i64 (K : Int)) ∧ Below w3.heap.size w3 W')
      (first | exact ⟨h0, h1, h2, (Below.refl _ _).drew⟩ | exact ⟨cell_below hB h0, cell_below hB h1, cell_below hB h2, hB⟩)
      (first
        | (go_at_call 15
           refine (fitR_any y.s (K : Int) B Ba m na cc ca y.cols la K _ (SegG.below hsc3 (‹_ ∧ _ ∧ _ ∧ Below _ _ _›).2.2.2) (hpa3.below (‹_ ∧ _ ∧ _ ∧ Below _ _ _›).2.2.2) (by omega) (by omega) hKm).mono ?_
           rintro e w4 ⟨v4, rfl, ho4, hb4⟩
           have hB : Below w3.heap.size w3 w4 := Below.next (‹_ ∧ _ ∧ _ ∧ Below _ _ _›).2.2.2 hb4))
    have hbc4 : Below wc.heap.size wc w4 := Below.next hb3' hB
    have hfar := far_apart (u := v3) (v := v4) (fun x hx => (ho4.lt x hx).1) (fun x hx => (ho3'.lt x hx).2)
    have hFK : FK 8 wc v3 v4 w4 := ⟨_, _, ho3'.below hB, ho4.mono hb3'.size, by omega, by omega, by
      rcases hfar with h | h
      · rcases hq : v3.ownBlock with _ | z
        · exact .inl rfl
        · rw [h]; exact .inr (by simp)
      · exact .inr (Ne.symm h), hbc4⟩
    have hs3 := ho3'.below hB
    have hs4 := ho4
    generalize fitVals y.cols la 0 = P at *
    generalize fitVals (y.cols.take K) la 0 = R at *
    obtain ⟨A3, c3, rfl, hs3, hlc3, hcm3⟩ := hs3.forms
    obtain ⟨A4, c4, rfl, hs4, hlc4, hcm4⟩ := hs4.forms
    rw [hl3] at hs3 hlc3 hFK ⊢
    rw [hl4] at hs4 hlc4 hFK ⊢
    have hsx4 := SegT.below hsx hbc4
    have HFK := Lib.hid hfk
    have HFK2 := Lib.hid hfk2
    clear hB hb4 ho4 ho3' hfar hl3 hl4 h0 h1 h2 hsc3 hpa3 hpa hsc hb3' hfk hfk2
    go_wp2_with fail
    refine (tcheck_any _ A3 N m cx c3 T P k _ hsx4 hs3 (by omega) (by omega) hkN).mono ?_
    rw [HYE.out, HFK.out]
    rintro e w5 ⟨rfl, hb5⟩
    replace hsx4 := SegT.below hsx4 hb5
    replace hs4 := hs4.below hb5
    go_wp2_with fail
    refine (tcheckKey_any _ A4 N K cx c4 T R k _ hsx4 hs4 (by omega) (by omega) hkN (by rw [HYE.out, HKK.out]; omega) (by rw [HYE.out, HKK.out, HML.out]; omega)).mono ?_
    rw [HYE.out, HKK.out, Int.toNat_natCast, HFK2.out]
    rintro e w6 ⟨rfl, hb6⟩
    have hFK6 : FK 8 wc (.slice A3 m c3) (.slice A4 K c4) w6 := (hFK.below hb5).below hb6
    clear hFK hs3 hs4 hsx4 hb5 hb6 hbc4
    have HF6 := Lib.hid hFK6
    obtain ⟨F0, G0, hF0, hG0, hFl, hGl, hne, hbel⟩ := hFK6
    have HMF := Lib.hid hF0.len_
    have HNE := Lib.hid hne
    clear hne
    go_upto_if 80 with fail
    go_cut [17] from 20 (fun u wd => FK 8 wc u (.slice A4 K c4) wd)
    case first =>
      by_cases hr1 : more % 4 = 1
      · have e1 : (((more : Int) % 4) == 1) = true := by rw [beq_iff_eq]; omega
        have hm1 : (1 : Int) ≤ (m : Int) := by omega
        have hmc3 : (m : Int) ≤ (c3 : Int) := by omega
        go_wp2_with fail
        go_meet
        case rel =>
          have hmF := HMF.out
          have ht := hF0.take_ (m - 1) (by omega) (by omega)
          have hob : (Value.slice A3 (m - 1) c3).ownBlock = (Value.slice A3 m c3).ownBlock := by cases A3 <;> rfl
          exact ⟨_, _, ht, hG0, by rw [List.length_take]; omega, hGl, by rw [hob]; exact HNE.out, hbel⟩
      · have e1 : (((more : Int) % 4) == 1) = false := by rw [beq_eq_false_iff_ne]; omega
        go_wp2_with fail
        go_meet
        case rel => exact HF6.out
    case rest =>
      rename World => wd
      have HF7 := Lib.hid hcut
      obtain ⟨F1, G1, hF1, hG1, hFl1, hGl1, hne1, hbel1⟩ := hcut
      obtain ⟨A7, c7, rfl, hs7, hlc7, hcm7⟩ := hF1.forms
      have HNE1 := Lib.hid hne1
      clear hne1 hF0 hG0 hbel HNE HMF HF6
      have hGK := hG1.len_
      have HGK := Lib.hid hGK
      clear hGK
      go_upto_if 88 with fail
      go_cut [17, 18] from 20 (fun u v we => FK 9 wc u v we)
      case first =>
        by_cases hr2 : more % 4 = 2
        · have e1 : (((more : Int) % 4) == 2) = true := by rw [beq_iff_eq]; omega
          have hgk := HGK.out
          have HGK2 := Lib.hid hgk
          clear hgk
          go_wp2_with (first
            | (at_builtin
               refine wpList_append_vals _ rfl (.tmp 89) (.tmp 91) _ _ vt rfl wc.heap.size (.slice A7 F1.length c7) F1 rfl (hF1.alloc _) _ 1 1 [V.none] rfl (SegV.newAt _ _ _ _ _ _ rfl rfl rfl) (by omega) (by have := hbel1.size; simp; omega) ?_
               intro v8 w8 ho8 hg8 hat8
               obtain ⟨hG8, hne8⟩ := sep_first (hG1.alloc _) HNE1.out hg8 hat8
               have hb8 : Below wc.heap.size wc w8 := below_grownV (hbel1.alloc hbel1.size _) (hF1.alloc _) hg8 (Nat.le_refl _) (by have := hbel1.size; simp; omega)
               have HNE8 := Lib.hid hne8
               clear hg8 hat8 hne8)
            | (at_builtin
               refine wpList_append_vals _ rfl (.tmp 93) (.tmp 95) _ _ vt rfl wc.heap.size (.slice A4 K c4) G1 rfl (hG8.alloc _) _ 1 1 [V.none] rfl (SegV.newAt _ _ _ _ _ _ rfl rfl rfl) (by omega) (by have := hb8.size; simp; omega) ?_
               intro v9 w9 ho9 hg9 hat9
               obtain ⟨hF9, hne9⟩ := sep_second (ho8.alloc _) HNE8.out hg9 hat9
               have hb9 : Below wc.heap.size wc w9 := below_grownV (hb8.alloc hb8.size _) (hG8.alloc _) hg9 (Nat.le_refl _) (by have := hb8.size; simp; omega)
               have HNE9 := Lib.hid hne9
               clear hg9 hat9 hne9))
          go_meet
          case rel => exact ⟨_, _, hF9, ho9, by rw [List.length_append]; simp; omega, by rw [List.length_append, HGK2.out]; simp; omega, HNE9.out, hb9⟩
        · have e1 : (((more : Int) % 4) == 2) = false := by rw [beq_eq_false_iff_ne]; omega
          go_wp2_with fail
          go_meet
          case rel => exact ⟨F1, G1, hF1, hG1, by omega, by omega, HNE1.out, hbel1⟩
      case rest =>
        rename World => we
        have HF10 := Lib.hid hcut
        obtain ⟨F2, G2, hF2, hG2, hFl2, hGl2, hne2, hbel2⟩ := hcut
        obtain ⟨A10, c10, rfl, hs10, hlc10, hcm10⟩ := hF2.forms
        obtain ⟨A11, c11, rfl, hs11, hlc11, hcm11⟩ := hG2.forms
        obtain ⟨nF, hnF⟩ : ∃ nF, F2.length = nF := ⟨_, rfl⟩
        obtain ⟨nG, hnG⟩ : ∃ nG, G2.length = nG := ⟨_, rfl⟩
        rw [hnF] at hF2 hlc10 hFl2 HF10 hne2 ⊢
        rw [hnG] at hG2 hlc11 hGl2 HF10 hne2 ⊢
        have HNF := Lib.hid hnF
        have HNG := Lib.hid hnG
        clear hnF hnG
        have HNE2 := Lib.hid hne2
        clear hne2 hF1 hG1 hbel1 HNE1 HGK HF7 hs10 hs11
        have p0' := cell_below hbel2 p0
        have p1' := cell_below hbel2 p1
        have p2' := cell_below hbel2 p2
        go_upto_region 15 with fail
        go_cut [107] from 20 (fun b wf => (b = .bool false ∨ (b = .bool true ∧ 0 < nF ∧ 0 < nG)) ∧ wf = we)
        case first =>
          rcases odd with _ | _
          · go_wp2_with fail
            go_meet
            case rel => exact ⟨.inl rfl, rfl⟩
          · by_cases hf0 : 0 < nF
            · have hf0' : (0 : Int) < (nF : Int) := by omega
              by_cases hg0 : 0 < nG
              · have hg0' : (0 : Int) < (nG : Int) := by omega
                go_wp2_with fail
                go_meet
                case rel => exact ⟨.inr ⟨rfl, hf0, hg0⟩, rfl⟩
              · have hg0' : nG = 0 := by omega
                go_wp2_with fail
                go_meet
                case rel => exact ⟨.inl rfl, rfl⟩
            · have hf0' : nF = 0 := by omega
              go_wp2_with fail
              go_meet
              case rel => exact ⟨.inl rfl, rfl⟩
        case rest =>
          rename World => wf
          obtain ⟨hb107, rfl⟩ := hcut
          go_upto_if 107 with fail
          go_cut [17, 18] from 20 (fun u v wg => FK 9 wc u v wg)
          case first =>
            rcases hb107 with rfl | ⟨rfl, hf0, hg0⟩
            · go_wp2_with fail
              go_meet
              case rel => exact HF10.out
            · obtain ⟨i, hi⟩ : ∃ i : Nat, (at_ : Int) % (nF : Int) = (i : Int) := ⟨at_ % nF, by omega⟩
              have hiF : i < nF := by have := Int.emod_lt_of_pos (at_ : Int) (show (0 : Int) < (nF : Int) by omega); omega
              obtain ⟨j, hj⟩ : ∃ j : Nat, (at_ : Int) % (nG : Int) = (j : Int) := ⟨at_ % nG, by omega⟩
              have hjG : j < nG := by have := Int.emod_lt_of_pos (at_ : Int) (show (0 : Int) < (nG : Int) by omega); omega
              go_wp2_with fail
              refine (of_any x _ hx.1 hx.2.1 hx.2.2.2.2).mono ?_
              rintro e wh ⟨rfl, hbh⟩
              generalize ofW x = z0
              by_cases hr3 : more % 4 = 3
              · have e3 : (((more : Int) % 4) == 3) = true := by rw [beq_iff_eq]; omega
                go_wp2
                have hbz : Below wc.heap.size wc (wh.alloc (.cells #[.int .u8 (at_ : Int), .int .i64 z0.n, .string z0.s] 41)) := (Below.next' hbel2 hbh hbel2.size).alloc (Nat.le_trans hbel2.size hbh.size) _
                have hFz := (hF2.below hbh).alloc (.cells #[.int .u8 (at_ : Int), .int .i64 z0.n, .string z0.s] 41)
                have hGz := (hG2.below hbh).alloc (.cells #[.int .u8 (at_ : Int), .int .i64 z0.n, .string z0.s] 41)
                have q0 : (wh.alloc (.cells #[.int .u8 (at_ : Int), .int .i64 z0.n, .string z0.s] 41)).cell? ⟨wh.heap.size, 0, none⟩ = some (.int .u8 (at_ : Int)) := by simp
                have q1 : (wh.alloc (.cells #[.int .u8 (at_ : Int), .int .i64 z0.n, .string z0.s] 41)).cell? ⟨wh.heap.size, 1, none⟩ = some (.int .i64 z0.n) := by simp
                have q2 : (wh.alloc (.cells #[.int .u8 (at_ : Int), .int .i64 z0.n, .string z0.s] 41)).cell? ⟨wh.heap.size, 2, none⟩ = some (.string z0.s) := by simp
                have hFb : ∀ y, (Value.slice A10 nF c10).ownBlock = some y → y < wh.heap.size := fun y hy => Nat.lt_of_lt_of_le (hF2.lt y hy).2 hbh.size
                have hGb : ∀ y, (Value.slice A11 nG c11).ownBlock = some y → y < wh.heap.size := fun y hy => Nat.lt_of_lt_of_le (hG2.lt y hy).2 hbh.size
                generalize wh.alloc (.cells #[.int .u8 (at_ : Int), .int .i64 z0.n, .string z0.s] 41) = Z at *
                generalize wh.heap.size = bz at *
                obtain ⟨g10, cap10, x0, x1, x2, eF, hg10, hgl10, y0, y1, y2, hfr10, hcp10, hcm10', hset10⟩ := own_setV hFz HNF.out i hiF
                obtain ⟨g11, cap11, x3, x4, x5, eG, hg11, hgl11, y3, y4, y5, hfr11, hcp11, hcm11', hset11⟩ := own_setV hGz HNG.out j hjG
                injection eF with eF1 _ eF3
                injection eG with eG1 _ eG3
                subst eF1 eF3 eG1 eG3
                have hgb10 : g10 < bz := hFb g10 rfl
                have hgb11 : g11 < bz := hGb g11 rfl
                have hgne : g10 ≠ g11 := by
                  rcases HNE2.out with h | h
                  · simp [Value.ownBlock] at h
                  · intro e; exact h (by rw [e]; rfl)
                have hF' := hset10 ⟨(at_ : Int), z0.n, z0.s⟩
                have hG' : OwnV (((Z.setCell ⟨g10, i * 3, none⟩ (.int .u8 (at_ : Int))).setCell ⟨g10, i * 3 + 1, none⟩ (.int .i64 z0.n)).setCell ⟨g10, i * 3 + 2, none⟩ (.string z0.s)) wc.heap.size 41 (.slice (some ⟨g11, 0, none⟩) nG c11) G2 :=
                  OwnV.setFar (OwnV.setFar (OwnV.setFar hGz (by simp [Value.ownBlock]; omega) _) (by simp [Value.ownBlock]; omega) _) (by simp [Value.ownBlock]; omega) _
                have hbz' : Below wc.heap.size wc (((Z.setCell ⟨g10, i * 3, none⟩ (.int .u8 (at_ : Int))).setCell ⟨g10, i * 3 + 1, none⟩ (.int .i64 z0.n)).setCell ⟨g10, i * 3 + 2, none⟩ (.string z0.s)) := Below.setCell (Below.setCell (Below.setCell hbz hg10 _) hg10 _) hg10 _
                have q0' := cell_far3' (x0 := .int .u8 (at_ : Int)) (x1 := .int .i64 z0.n) (x2 := .string z0.s) (k := i * 3) (show g10 ≠ bz by omega) q0
                have q1' := cell_far3' (x0 := .int .u8 (at_ : Int)) (x1 := .int .i64 z0.n) (x2 := .string z0.s) (k := i * 3) (show g10 ≠ bz by omega) q1
                have q2' := cell_far3' (x0 := .int .u8 (at_ : Int)) (x1 := .int .i64 z0.n) (x2 := .string z0.s) (k := i * 3) (show g10 ≠ bz by omega) q2
                have hti : (at_ : Int).tmod (nF : Int) = (i : Int) := by rw [Int.tmod_eq_emod_of_nonneg (by omega)]; exact hi
                have htj : (at_ : Int).tmod (nG : Int) = (j : Int) := by rw [Int.tmod_eq_emod_of_nonneg (by omega)]; exact hj
                have hneF : ((nF : Int) == 0) = false := by rw [beq_eq_false_iff_ne]; omega
                have hneG : ((nG : Int) == 0) = false := by rw [beq_eq_false_iff_ne]; omega
                have wri : IntKind.i64.wrap (at_ : Int) = (at_ : Int) := IntWalk.i64_in _ (by omega)
                have wri2 : IntKind.i64.wrap (i : Int) = (i : Int) := IntWalk.i64_in _ (by omega)
                have wrj2 : IntKind.i64.wrap (j : Int) = (j : Int) := IntWalk.i64_in _ (by omega)
                have li0 : (0 : Int) ≤ (i : Int) := by omega
                have li1 : (i : Int) < (nF : Int) := by omega
                have lj0 : (0 : Int) ≤ (j : Int) := by omega
                have lj1 : (j : Int) < (nG : Int) := by omega
                refine wp_region_noPanic (wp_region_till (fun W' => W'.cell? ⟨bz, 0, none⟩ = some (.int .u8 (at_ : Int)) ∧ W'.cell? ⟨bz, 1, none⟩ = some (.int .i64 z0.n) ∧ W'.cell? ⟨bz, 2, none⟩ = some (.string z0.s)) 8 (by kernel_rfl) ?_)
                change wpAnyT _ _ _ _ _ _ 9 _ _ _
                refine wpAnyT_take (i := 0) (v := .slice (some ⟨g10, 0, none⟩) nF c10) rfl (by decide +kernel) (fun _ _ _ h => h) ⟨q0, q1, q2⟩ (Or.inl ⟨rfl, fun W' hW => by obtain ⟨c0, c1, c2⟩ := hW; go_simp⟩) ?_
                refine wpAnyT_take (i := 1) (v := .int .u8 (at_ : Int)) rfl (by decide +kernel) (fun _ _ _ h => h) ⟨q0, q1, q2⟩ (Or.inl ⟨rfl, fun W' hW => by obtain ⟨c0, c1, c2⟩ := hW; go_simp⟩) ?_
                refine wpAnyT_take (i := 2) (v := .int .i64 (at_ : Int)) rfl (by decide +kernel) (fun _ _ _ h => h) ⟨q0, q1, q2⟩ (Or.inl ⟨rfl, fun W' hW => by obtain ⟨c0, c1, c2⟩ := hW; go_simp⟩) ?_
                refine wpAnyT_take (i := 3) (v := .slice (some ⟨g10, 0, none⟩) nF c10) rfl (by decide +kernel) (fun _ _ _ h => h) ⟨q0, q1, q2⟩ (Or.inl ⟨rfl, fun W' hW => by obtain ⟨c0, c1, c2⟩ := hW; go_simp⟩) ?_
                refine wpAnyT_take (i := 4) (v := .int .i64 (nF : Int)) rfl (by decide +kernel) (fun _ _ _ h => h) ⟨q0, q1, q2⟩ (Or.inl ⟨rfl, fun W' hW => by obtain ⟨c0, c1, c2⟩ := hW; go_simp⟩) ?_
                refine wpAnyT_take (i := 5) (v := .int .i64 (i : Int)) rfl (by decide +kernel) (fun _ _ _ h => h) ⟨q0, q1, q2⟩ (Or.inl ⟨rfl, fun W' hW => by obtain ⟨c0, c1, c2⟩ := hW; go_simp; omega⟩) ?_
                refine wpAnyT_take (i := 6) (v := .agg #[.int .u8 (at_ : Int), .int .i64 z0.n, .string z0.s]) rfl (by decide +kernel) (fun _ _ _ h => h) ⟨q0, q1, q2⟩ (Or.inl ⟨rfl, fun W' hW => by obtain ⟨c0, c1, c2⟩ := hW; go_simp⟩) ?_
                refine wpAnyT_step 7 rfl (by decide +kernel) ?_
                go_wp2_with fail
                refine wpAnyT_step 8 rfl (by decide +kernel) ?_
                go_wp2_with fail
                refine ⟨.inl trivial, ?_⟩
                refine wpAnyT_done (by decide +kernel) (NoPanic.normal ?_)
                have hF3 : OwnV (((Z.setCell ⟨g10, i * 3, none⟩ (.int .u8 (at_ : Int))).setCell ⟨g10, i * 3 + 1, none⟩ (.int .i64 z0.n)).setCell ⟨g10, i * 3 + 2, none⟩ (.string z0.s)).drew wc.heap.size 41 (.slice (some ⟨g10, 0, none⟩) nF c10) (F2.set i ⟨(at_ : Int), z0.n, z0.s⟩) := hF'
                have hG3 : OwnV (((Z.setCell ⟨g10, i * 3, none⟩ (.int .u8 (at_ : Int))).setCell ⟨g10, i * 3 + 1, none⟩ (.int .i64 z0.n)).setCell ⟨g10, i * 3 + 2, none⟩ (.string z0.s)).drew wc.heap.size 41 (.slice (some ⟨g11, 0, none⟩) nG c11) G2 := hG'
                have hb3 := hbz'.drew
                replace q0' : (((Z.setCell ⟨g10, i * 3, none⟩ (.int .u8 (at_ : Int))).setCell ⟨g10, i * 3 + 1, none⟩ (.int .i64 z0.n)).setCell ⟨g10, i * 3 + 2, none⟩ (.string z0.s)).drew.cell? ⟨bz, 0, none⟩ = _ := q0'
                replace q1' : (((Z.setCell ⟨g10, i * 3, none⟩ (.int .u8 (at_ : Int))).setCell ⟨g10, i * 3 + 1, none⟩ (.int .i64 z0.n)).setCell ⟨g10, i * 3 + 2, none⟩ (.string z0.s)).drew.cell? ⟨bz, 1, none⟩ = _ := q1'
                replace q2' : (((Z.setCell ⟨g10, i * 3, none⟩ (.int .u8 (at_ : Int))).setCell ⟨g10, i * 3 + 1, none⟩ (.int .i64 z0.n)).setCell ⟨g10, i * 3 + 2, none⟩ (.string z0.s)).drew.cell? ⟨bz, 2, none⟩ = _ := q2'
                clear hF' hG' hbz' hset10 hset11 y0 y1 y2 y3 y4 y5 hfr10 hfr11 q0 q1 q2 hgl10 hgl11 hFz hGz hbz
                generalize (((Z.setCell ⟨g10, i * 3, none⟩ (.int .u8 (at_ : Int))).setCell ⟨g10, i * 3 + 1, none⟩ (.int .i64 z0.n)).setCell ⟨g10, i * 3 + 2, none⟩ (.string z0.s)).drew = Y at *
                obtain ⟨g12, cap12, x6, x7, x8, eG, hg12, hgl12, y3, y4, y5, hfr12, hcp12, hcm12', hset12⟩ := own_setV hG3 HNG.out j hjG
                injection eG with eG1 _ eG3
                injection eG1 with eG1
                injection eG1 with eG1
                subst eG1 eG3
                have hG4 := hset12 ⟨(at_ : Int), z0.n, z0.s⟩
                have hF4 : OwnV (((Y.setCell ⟨g11, j * 3, none⟩ (.int .u8 (at_ : Int))).setCell ⟨g11, j * 3 + 1, none⟩ (.int .i64 z0.n)).setCell ⟨g11, j * 3 + 2, none⟩ (.string z0.s)) wc.heap.size 41 (.slice (some ⟨g10, 0, none⟩) nF c10) (F2.set i ⟨(at_ : Int), z0.n, z0.s⟩) :=
                  OwnV.setFar (OwnV.setFar (OwnV.setFar hF3 (by simp [Value.ownBlock]; omega) _) (by simp [Value.ownBlock]; omega) _) (by simp [Value.ownBlock]; omega) _
                have hb4 : Below wc.heap.size wc (((Y.setCell ⟨g11, j * 3, none⟩ (.int .u8 (at_ : Int))).setCell ⟨g11, j * 3 + 1, none⟩ (.int .i64 z0.n)).setCell ⟨g11, j * 3 + 2, none⟩ (.string z0.s)) := Below.setCell (Below.setCell (Below.setCell hb3 hg11 _) hg11 _) hg11 _
                clear hset12 hF3 hG3 hb3
                go_wp2
                refine wp_region_noPanic (wp_region_till (fun W' => W'.cell? ⟨bz, 0, none⟩ = some (.int .u8 (at_ : Int)) ∧ W'.cell? ⟨bz, 1, none⟩ = some (.int .i64 z0.n) ∧ W'.cell? ⟨bz, 2, none⟩ = some (.string z0.s)) 8 (by kernel_rfl) ?_)
                change wpAnyT _ _ _ _ _ _ 9 _ _ _
                refine wpAnyT_take (i := 0) (v := .slice (some ⟨g11, 0, none⟩) nG c11) rfl (by decide +kernel) (fun _ _ _ h => h) ⟨q0', q1', q2'⟩ (Or.inl ⟨rfl, fun W' hW => by obtain ⟨c0, c1, c2⟩ := hW; go_simp⟩) ?_
                refine wpAnyT_take (i := 1) (v := .int .u8 (at_ : Int)) rfl (by decide +kernel) (fun _ _ _ h => h) ⟨q0', q1', q2'⟩ (Or.inl ⟨rfl, fun W' hW => by obtain ⟨c0, c1, c2⟩ := hW; go_simp⟩) ?_
                refine wpAnyT_take (i := 2) (v := .int .i64 (at_ : Int)) rfl (by decide +kernel) (fun _ _ _ h => h) ⟨q0', q1', q2'⟩ (Or.inl ⟨rfl, fun W' hW => by obtain ⟨c0, c1, c2⟩ := hW; go_simp⟩) ?_
                refine wpAnyT_take (i := 3) (v := .slice (some ⟨g11, 0, none⟩) nG c11) rfl (by decide +kernel) (fun _ _ _ h => h) ⟨q0', q1', q2'⟩ (Or.inl ⟨rfl, fun W' hW => by obtain ⟨c0, c1, c2⟩ := hW; go_simp⟩) ?_
                refine wpAnyT_take (i := 4) (v := .int .i64 (nG : Int)) rfl (by decide +kernel) (fun _ _ _ h => h) ⟨q0', q1', q2'⟩ (Or.inl ⟨rfl, fun W' hW => by obtain ⟨c0, c1, c2⟩ := hW; go_simp⟩) ?_
                refine wpAnyT_take (i := 5) (v := .int .i64 (j : Int)) rfl (by decide +kernel) (fun _ _ _ h => h) ⟨q0', q1', q2'⟩ (Or.inl ⟨rfl, fun W' hW => by obtain ⟨c0, c1, c2⟩ := hW; go_simp; omega⟩) ?_
                refine wpAnyT_take (i := 6) (v := .agg #[.int .u8 (at_ : Int), .int .i64 z0.n, .string z0.s]) rfl (by decide +kernel) (fun _ _ _ h => h) ⟨q0', q1', q2'⟩ (Or.inl ⟨rfl, fun W' hW => by obtain ⟨c0, c1, c2⟩ := hW; go_simp⟩) ?_
                refine wpAnyT_step 7 rfl (by decide +kernel) ?_
                go_wp2_with fail
                refine ⟨.inr ⟨q0', q1', q2'⟩, ?_⟩
                refine wpAnyT_step 8 rfl (by decide +kernel) ?_
                go_wp2_with fail
                refine ⟨.inl trivial, ?_⟩
                refine wpAnyT_done (by decide +kernel) (NoPanic.normal ?_)
                go_wp2_with fail
                go_meet
                case rel =>
                  refine ⟨F2.set i ⟨(at_ : Int), z0.n, z0.s⟩, G2.set j ⟨(at_ : Int), z0.n, z0.s⟩, hF4, hG4, by rw [List.length_set, HNF.out]; exact hFl2, by rw [List.length_set, HNG.out]; exact hGl2, .inr ?_, hb4.drew⟩
                  simp [Value.ownBlock]
                  exact hgne
              · have e3 : (((more : Int) % 4) == 3) = false := by rw [beq_eq_false_iff_ne]; omega
                generalize z0 = z
                go_wp2
                have hbz : Below wc.heap.size wc (wh.alloc (.cells #[.int .u8 z.k, .int .i64 z.n, .string z.s] 41)) := (Below.next' hbel2 hbh hbel2.size).alloc (Nat.le_trans hbel2.size hbh.size) _
                have hFz := (hF2.below hbh).alloc (.cells #[.int .u8 z.k, .int .i64 z.n, .string z.s] 41)
                have hGz := (hG2.below hbh).alloc (.cells #[.int .u8 z.k, .int .i64 z.n, .string z.s] 41)
                have q0 : (wh.alloc (.cells #[.int .u8 z.k, .int .i64 z.n, .string z.s] 41)).cell? ⟨wh.heap.size, 0, none⟩ = some (.int .u8 z.k) := by simp
                have q1 : (wh.alloc (.cells #[.int .u8 z.k, .int .i64 z.n, .string z.s] 41)).cell? ⟨wh.heap.size, 1, none⟩ = some (.int .i64 z.n) := by simp
                have q2 : (wh.alloc (.cells #[.int .u8 z.k, .int .i64 z.n, .string z.s] 41)).cell? ⟨wh.heap.size, 2, none⟩ = some (.string z.s) := by simp
                have hFb : ∀ y, (Value.slice A10 nF c10).ownBlock = some y → y < wh.heap.size := fun y hy => Nat.lt_of_lt_of_le (hF2.lt y hy).2 hbh.size
                have hGb : ∀ y, (Value.slice A11 nG c11).ownBlock = some y → y < wh.heap.size := fun y hy => Nat.lt_of_lt_of_le (hG2.lt y hy).2 hbh.size
                generalize wh.alloc (.cells #[.int .u8 z.k, .int .i64 z.n, .string z.s] 41) = Z at *
                generalize wh.heap.size = bz at *
                obtain ⟨g10, cap10, x0, x1, x2, eF, hg10, hgl10, y0, y1, y2, hfr10, hcp10, hcm10', hset10⟩ := own_setV hFz HNF.out i hiF
                obtain ⟨g11, cap11, x3, x4, x5, eG, hg11, hgl11, y3, y4, y5, hfr11, hcp11, hcm11', hset11⟩ := own_setV hGz HNG.out j hjG
                injection eF with eF1 _ eF3
                injection eG with eG1 _ eG3
                subst eF1 eF3 eG1 eG3
                have hgb10 : g10 < bz := hFb g10 rfl
                have hgb11 : g11 < bz := hGb g11 rfl
                have hgne : g10 ≠ g11 := by
                  rcases HNE2.out with h | h
                  · simp [Value.ownBlock] at h
                  · intro e; exact h (by rw [e]; rfl)
                have hF' := hset10 z
                have hG' : OwnV (((Z.setCell ⟨g10, i * 3, none⟩ (.int .u8 z.k)).setCell ⟨g10, i * 3 + 1, none⟩ (.int .i64 z.n)).setCell ⟨g10, i * 3 + 2, none⟩ (.string z.s)) wc.heap.size 41 (.slice (some ⟨g11, 0, none⟩) nG c11) G2 :=
                  OwnV.setFar (OwnV.setFar (OwnV.setFar hGz (by simp [Value.ownBlock]; omega) _) (by simp [Value.ownBlock]; omega) _) (by simp [Value.ownBlock]; omega) _
                have hbz' : Below wc.heap.size wc (((Z.setCell ⟨g10, i * 3, none⟩ (.int .u8 z.k)).setCell ⟨g10, i * 3 + 1, none⟩ (.int .i64 z.n)).setCell ⟨g10, i * 3 + 2, none⟩ (.string z.s)) := Below.setCell (Below.setCell (Below.setCell hbz hg10 _) hg10 _) hg10 _
                have q0' := cell_far3' (x0 := .int .u8 z.k) (x1 := .int .i64 z.n) (x2 := .string z.s) (k := i * 3) (show g10 ≠ bz by omega) q0
                have q1' := cell_far3' (x0 := .int .u8 z.k) (x1 := .int .i64 z.n) (x2 := .string z.s) (k := i * 3) (show g10 ≠ bz by omega) q1
                have q2' := cell_far3' (x0 := .int .u8 z.k) (x1 := .int .i64 z.n) (x2 := .string z.s) (k := i * 3) (show g10 ≠ bz by omega) q2
                have hti : (at_ : Int).tmod (nF : Int) = (i : Int) := by rw [Int.tmod_eq_emod_of_nonneg (by omega)]; exact hi
                have htj : (at_ : Int).tmod (nG : Int) = (j : Int) := by rw [Int.tmod_eq_emod_of_nonneg (by omega)]; exact hj
                have hneF : ((nF : Int) == 0) = false := by rw [beq_eq_false_iff_ne]; omega
                have hneG : ((nG : Int) == 0) = false := by rw [beq_eq_false_iff_ne]; omega
                have wri : IntKind.i64.wrap (at_ : Int) = (at_ : Int) := IntWalk.i64_in _ (by omega)
                have wri2 : IntKind.i64.wrap (i : Int) = (i : Int) := IntWalk.i64_in _ (by omega)
                have wrj2 : IntKind.i64.wrap (j : Int) = (j : Int) := IntWalk.i64_in _ (by omega)
                have li0 : (0 : Int) ≤ (i : Int) := by omega
                have li1 : (i : Int) < (nF : Int) := by omega
                have lj0 : (0 : Int) ≤ (j : Int) := by omega
                have lj1 : (j : Int) < (nG : Int) := by omega
                refine wp_region_noPanic (wp_region_till (fun W' => W'.cell? ⟨bz, 0, none⟩ = some (.int .u8 z.k) ∧ W'.cell? ⟨bz, 1, none⟩ = some (.int .i64 z.n) ∧ W'.cell? ⟨bz, 2, none⟩ = some (.string z.s)) 8 (by kernel_rfl) ?_)
                change wpAnyT _ _ _ _ _ _ 9 _ _ _
                refine wpAnyT_take (i := 0) (v := .slice (some ⟨g10, 0, none⟩) nF c10) rfl (by decide +kernel) (fun _ _ _ h => h) ⟨q0, q1, q2⟩ (Or.inl ⟨rfl, fun W' hW => by obtain ⟨c0, c1, c2⟩ := hW; go_simp⟩) ?_
                refine wpAnyT_take (i := 1) (v := .int .u8 (at_ : Int)) rfl (by decide +kernel) (fun _ _ _ h => h) ⟨q0, q1, q2⟩ (Or.inl ⟨rfl, fun W' hW => by obtain ⟨c0, c1, c2⟩ := hW; go_simp⟩) ?_
                refine wpAnyT_take (i := 2) (v := .int .i64 (at_ : Int)) rfl (by decide +kernel) (fun _ _ _ h => h) ⟨q0, q1, q2⟩ (Or.inl ⟨rfl, fun W' hW => by obtain ⟨c0, c1, c2⟩ := hW; go_simp⟩) ?_
                refine wpAnyT_take (i := 3) (v := .slice (some ⟨g10, 0, none⟩) nF c10) rfl (by decide +kernel) (fun _ _ _ h => h) ⟨q0, q1, q2⟩ (Or.inl ⟨rfl, fun W' hW => by obtain ⟨c0, c1, c2⟩ := hW; go_simp⟩) ?_
                refine wpAnyT_take (i := 4) (v := .int .i64 (nF : Int)) rfl (by decide +kernel) (fun _ _ _ h => h) ⟨q0, q1, q2⟩ (Or.inl ⟨rfl, fun W' hW => by obtain ⟨c0, c1, c2⟩ := hW; go_simp⟩) ?_
                refine wpAnyT_take (i := 5) (v := .int .i64 (i : Int)) rfl (by decide +kernel) (fun _ _ _ h => h) ⟨q0, q1, q2⟩ (Or.inl ⟨rfl, fun W' hW => by obtain ⟨c0, c1, c2⟩ := hW; go_simp; omega⟩) ?_
                refine wpAnyT_take (i := 6) (v := .agg #[.int .u8 z.k, .int .i64 z.n, .string z.s]) rfl (by decide +kernel) (fun _ _ _ h => h) ⟨q0, q1, q2⟩ (Or.inl ⟨rfl, fun W' hW => by obtain ⟨c0, c1, c2⟩ := hW; go_simp⟩) ?_
                refine wpAnyT_step 7 rfl (by decide +kernel) ?_
                go_wp2_with fail
                refine wpAnyT_step 8 rfl (by decide +kernel) ?_
                go_wp2_with fail
                refine ⟨.inl trivial, ?_⟩
                refine wpAnyT_done (by decide +kernel) (NoPanic.normal ?_)
                have hF3 : OwnV (((Z.setCell ⟨g10, i * 3, none⟩ (.int .u8 z.k)).setCell ⟨g10, i * 3 + 1, none⟩ (.int .i64 z.n)).setCell ⟨g10, i * 3 + 2, none⟩ (.string z.s)).drew wc.heap.size 41 (.slice (some ⟨g10, 0, none⟩) nF c10) (F2.set i z) := hF'
                have hG3 : OwnV (((Z.setCell ⟨g10, i * 3, none⟩ (.int .u8 z.k)).setCell ⟨g10, i * 3 + 1, none⟩ (.int .i64 z.n)).setCell ⟨g10, i * 3 + 2, none⟩ (.string z.s)).drew wc.heap.size 41 (.slice (some ⟨g11, 0, none⟩) nG c11) G2 := hG'
                have hb3 := hbz'.drew
                replace q0' : (((Z.setCell ⟨g10, i * 3, none⟩ (.int .u8 z.k)).setCell ⟨g10, i * 3 + 1, none⟩ (.int .i64 z.n)).setCell ⟨g10, i * 3 + 2, none⟩ (.string z.s)).drew.cell? ⟨bz, 0, none⟩ = _ := q0'
                replace q1' : (((Z.setCell ⟨g10, i * 3, none⟩ (.int .u8 z.k)).setCell ⟨g10, i * 3 + 1, none⟩ (.int .i64 z.n)).setCell ⟨g10, i * 3 + 2, none⟩ (.string z.s)).drew.cell? ⟨bz, 1, none⟩ = _ := q1'
                replace q2' : (((Z.setCell ⟨g10, i * 3, none⟩ (.int .u8 z.k)).setCell ⟨g10, i * 3 + 1, none⟩ (.int .i64 z.n)).setCell ⟨g10, i * 3 + 2, none⟩ (.string z.s)).drew.cell? ⟨bz, 2, none⟩ = _ := q2'
                clear hF' hG' hbz' hset10 hset11 y0 y1 y2 y3 y4 y5 hfr10 hfr11 q0 q1 q2 hgl10 hgl11 hFz hGz hbz
                generalize (((Z.setCell ⟨g10, i * 3, none⟩ (.int .u8 z.k)).setCell ⟨g10, i * 3 + 1, none⟩ (.int .i64 z.n)).setCell ⟨g10, i * 3 + 2, none⟩ (.string z.s)).drew = Y at *
                obtain ⟨g12, cap12, x6, x7, x8, eG, hg12, hgl12, y3, y4, y5, hfr12, hcp12, hcm12', hset12⟩ := own_setV hG3 HNG.out j hjG
                injection eG with eG1 _ eG3
                injection eG1 with eG1
                injection eG1 with eG1
                subst eG1 eG3
                have hG4 := hset12 z
                have hF4 : OwnV (((Y.setCell ⟨g11, j * 3, none⟩ (.int .u8 z.k)).setCell ⟨g11, j * 3 + 1, none⟩ (.int .i64 z.n)).setCell ⟨g11, j * 3 + 2, none⟩ (.string z.s)) wc.heap.size 41 (.slice (some ⟨g10, 0, none⟩) nF c10) (F2.set i z) :=
                  OwnV.setFar (OwnV.setFar (OwnV.setFar hF3 (by simp [Value.ownBlock]; omega) _) (by simp [Value.ownBlock]; omega) _) (by simp [Value.ownBlock]; omega) _
                have hb4 : Below wc.heap.size wc (((Y.setCell ⟨g11, j * 3, none⟩ (.int .u8 z.k)).setCell ⟨g11, j * 3 + 1, none⟩ (.int .i64 z.n)).setCell ⟨g11, j * 3 + 2, none⟩ (.string z.s)) := Below.setCell (Below.setCell (Below.setCell hb3 hg11 _) hg11 _) hg11 _
                clear hset12 hF3 hG3 hb3
                go_wp2
                refine wp_region_noPanic (wp_region_till (fun W' => W'.cell? ⟨bz, 0, none⟩ = some (.int .u8 z.k) ∧ W'.cell? ⟨bz, 1, none⟩ = some (.int .i64 z.n) ∧ W'.cell? ⟨bz, 2, none⟩ = some (.string z.s)) 8 (by kernel_rfl) ?_)
                change wpAnyT _ _ _ _ _ _ 9 _ _ _
                refine wpAnyT_take (i := 0) (v := .slice (some ⟨g11, 0, none⟩) nG c11) rfl (by decide +kernel) (fun _ _ _ h => h) ⟨q0', q1', q2'⟩ (Or.inl ⟨rfl, fun W' hW => by obtain ⟨c0, c1, c2⟩ := hW; go_simp⟩) ?_
                refine wpAnyT_take (i := 1) (v := .int .u8 (at_ : Int)) rfl (by decide +kernel) (fun _ _ _ h => h) ⟨q0', q1', q2'⟩ (Or.inl ⟨rfl, fun W' hW => by obtain ⟨c0, c1, c2⟩ := hW; go_simp⟩) ?_
                refine wpAnyT_take (i := 2) (v := .int .i64 (at_ : Int)) rfl (by decide +kernel) (fun _ _ _ h => h) ⟨q0', q1', q2'⟩ (Or.inl ⟨rfl, fun W' hW => by obtain ⟨c0, c1, c2⟩ := hW; go_simp⟩) ?_
                refine wpAnyT_take (i := 3) (v := .slice (some ⟨g11, 0, none⟩) nG c11) rfl (by decide +kernel) (fun _ _ _ h => h) ⟨q0', q1', q2'⟩ (Or.inl ⟨rfl, fun W' hW => by obtain ⟨c0, c1, c2⟩ := hW; go_simp⟩) ?_
                refine wpAnyT_take (i := 4) (v := .int .i64 (nG : Int)) rfl (by decide +kernel) (fun _ _ _ h => h) ⟨q0', q1', q2'⟩ (Or.inl ⟨rfl, fun W' hW => by obtain ⟨c0, c1, c2⟩ := hW; go_simp⟩) ?_
                refine wpAnyT_take (i := 5) (v := .int .i64 (j : Int)) rfl (by decide +kernel) (fun _ _ _ h => h) ⟨q0', q1', q2'⟩ (Or.inl ⟨rfl, fun W' hW => by obtain ⟨c0, c1, c2⟩ := hW; go_simp; omega⟩) ?_
                refine wpAnyT_take (i := 6) (v := .agg #[.int .u8 z.k, .int .i64 z.n, .string z.s]) rfl (by decide +kernel) (fun _ _ _ h => h) ⟨q0', q1', q2'⟩ (Or.inl ⟨rfl, fun W' hW => by obtain ⟨c0, c1, c2⟩ := hW; go_simp⟩) ?_
                refine wpAnyT_step 7 rfl (by decide +kernel) ?_
                go_wp2_with fail
                refine ⟨.inr ⟨q0', q1', q2'⟩, ?_⟩
                refine wpAnyT_step 8 rfl (by decide +kernel) ?_
                go_wp2_with fail
                refine ⟨.inl trivial, ?_⟩
                refine wpAnyT_done (by decide +kernel) (NoPanic.normal ?_)
                go_wp2_with fail
                go_meet
                case rel =>
                  refine ⟨F2.set i z, G2.set j z, hF4, hG4, by rw [List.length_set, HNF.out]; exact hFl2, by rw [List.length_set, HNG.out]; exact hGl2, .inr ?_, hb4.drew⟩
                  simp [Value.ownBlock]
                  exact hgne
          case rest =>
            rename World => wg
            obtain ⟨F3, G3, hF3, hG3, hFl3, hGl3, _, hbel3⟩ := hcut
            obtain ⟨A20, c20, rfl, hs20, hlc20, hcm20⟩ := hF3.forms
            obtain ⟨A21, c21, rfl, hs21, hlc21, hcm21⟩ := hG3.forms
            have hsx3 := SegT.below hsx hbel3
            have hbwwg : Below w.heap.size w wg := Below.next' hbw2 hbel3 hbw2.size
            clear hF3 hG3 hF2 hG2 hbel2 HF10 HNE2 p0' p1' p2' p0 p1 p2 hbel3
            obtain ⟨nF3, hnF3⟩ : ∃ nF3, F3.length = nF3 := ⟨_, rfl⟩
            obtain ⟨nG3, hnG3⟩ : ∃ nG3, G3.length = nG3 := ⟨_, rfl⟩
            rw [hnF3] at hs20 hlc20 hFl3 ⊢
            rw [hnG3] at hs21 hlc21 hGl3 ⊢
            clear hnF3 hnG3
            have hT : ∀ (q : Nat) (hq : q < N), 0 ≤ (T[q]'(by rw [hsx3.len]; exact hq)).k ∧ (T[q]'(by rw [hsx3.len]; exact hq)).k ≤ ((T[q]'(by rw [hsx3.len]; exact hq)).cols.length : Int) ∧ ∀ c ∈ (T[q]'(by rw [hsx3.len]; exact hq)).cols, c.k = 1 ∨ c.k = 2 := fun q hq => by
              have h := hOk.2.2.2.2 (T[q]'(by rw [hsx3.len]; exact hq)) (List.getElem_mem _)
              exact ⟨by have := h.2.2.1; omega, h.2.2.2.1, h.2.2.2.2.2.2.1⟩
            have HT := Lib.hid hT
            clear hT
            obtain ⟨r1, hr1⟩ : ∃ r1, fitL (T[k]'(by rw [hsx3.len]; exact hkN)).cols F3 = r1 := ⟨_, rfl⟩
            have R1 := Lib.hid hr1
            obtain ⟨r2, hr2⟩ : ∃ r2, fitL ((T[k]'(by rw [hsx3.len]; exact hkN)).cols.take (T[k]'(by rw [hsx3.len]; exact hkN)).k.toNat) G3 = r2 := ⟨_, rfl⟩
            have R2 := Lib.hid hr2
            clear hr1 hr2
            go_wp2_with fail
            refine (tcheck_any _ A20 N nF3 cx c20 T F3 k _ hsx3 hs20 (by omega) (by omega) hkN).mono ?_
            rw [R1.out]
            rintro e wa ⟨rfl, hbx⟩
            have hbwwa : Below w.heap.size w wa := Below.next' hbwwg hbx hbwwg.size
            replace hsx3 := SegT.below hsx3 hbx
            replace hs20 := hs20.below hbx
            replace hs21 := hs21.below hbx
            clear hbx
            go_wp2_with fail
            refine (rCheck_any _ A20 N nF3 cx c20 T F3 k _ hsx3 hs20 (by omega) (by omega) hkN (HT.out k hkN).2.2).mono ?_
            rw [R1.out]
            rintro e wb ⟨rfl, hbx⟩
            have hbwwb : Below w.heap.size w wb := Below.next' hbwwa hbx hbwwa.size
            replace hsx3 := SegT.below hsx3 hbx
            replace hs20 := hs20.below hbx
            replace hs21 := hs21.below hbx
            clear hbx
            go_wp2_with fail
            refine (tcheckKey_any _ A21 N nG3 cx c21 T G3 k _ hsx3 hs21 (by omega) (by omega) hkN (HT.out k hkN).1 (HT.out k hkN).2.1).mono ?_
            rw [R2.out]
            rintro e wp ⟨rfl, hbx⟩
            have hbwwp : Below w.heap.size w wp := Below.next' hbwwb hbx hbwwb.size
            replace hsx3 := SegT.below hsx3 hbx
            replace hs20 := hs20.below hbx
            replace hs21 := hs21.below hbx
            clear hbx
            go_wp2_with fail
            refine (rCheckKey_any _ A21 N nG3 cx c21 T G3 k _ hsx3 hs21 (by omega) (by omega) hkN (HT.out k hkN).1 (HT.out k hkN).2.1 (HT.out k hkN).2.2).mono ?_
            rw [R2.out]
            rintro e wr ⟨rfl, hbx⟩
            have hbwwr : Below w.heap.size w wr := Below.next' hbwwp hbx hbwwp.size
            replace hsx3 := SegT.below hsx3 hbx
            replace hs20 := hs20.below hbx
            replace hs21 := hs21.below hbx
            clear hbx
            by_cases htn : 0 ≤ t ∧ t < (N : Int)
            · obtain ⟨q, hq⟩ : ∃ q : Nat, t = (q : Int) := ⟨t.toNat, by omega⟩
              have hqN : q < N := by omega
              obtain ⟨r3, hr3⟩ : ∃ r3, fitL (T[q]'(by rw [hsx3.len]; exact hqN)).cols F3 = r3 := ⟨_, rfl⟩
              have R3 := Lib.hid hr3
              obtain ⟨r4, hr4⟩ : ∃ r4, fitL ((T[q]'(by rw [hsx3.len]; exact hqN)).cols.take (T[q]'(by rw [hsx3.len]; exact hqN)).k.toNat) F3 = r4 := ⟨_, rfl⟩
              have R4 := Lib.hid hr4
              clear hr3 hr4 htn
              rw [hq]
              clear hq
              go_wp2_with fail
              refine (tcheck_any _ A20 N nF3 cx c20 T F3 q _ hsx3 hs20 (by omega) (by omega) hqN).mono ?_
              rw [R3.out]
              rintro e ws ⟨rfl, hbx⟩
              have hbwws : Below w.heap.size w ws := Below.next' hbwwr hbx hbwwr.size
              replace hsx3 := SegT.below hsx3 hbx
              replace hs20 := hs20.below hbx
              replace hs21 := hs21.below hbx
              clear hbx
              go_wp2_with fail
              refine (rCheck_any _ A20 N nF3 cx c20 T F3 q _ hsx3 hs20 (by omega) (by omega) hqN (HT.out q hqN).2.2).mono ?_
              rw [R3.out]
              rintro e wt ⟨rfl, hbx⟩
              have hbwwt : Below w.heap.size w wt := Below.next' hbwws hbx hbwws.size
              replace hsx3 := SegT.below hsx3 hbx
              replace hs20 := hs20.below hbx
              replace hs21 := hs21.below hbx
              clear hbx
              go_wp2_with fail
              refine (tcheckKey_any _ A20 N nF3 cx c20 T F3 q _ hsx3 hs20 (by omega) (by omega) hqN (HT.out q hqN).1 (HT.out q hqN).2.1).mono ?_
              rw [R4.out]
              rintro e wu ⟨rfl, hbx⟩
              have hbwwu : Below w.heap.size w wu := Below.next' hbwwt hbx hbwwt.size
              replace hsx3 := SegT.below hsx3 hbx
              replace hs20 := hs20.below hbx
              replace hs21 := hs21.below hbx
              clear hbx
              go_wp2_with fail
              refine (rCheckKey_any _ A20 N nF3 cx c20 T F3 q _ hsx3 hs20 (by omega) (by omega) hqN (HT.out q hqN).1 (HT.out q hqN).2.1 (HT.out q hqN).2.2).mono ?_
              rw [R4.out]
              rintro e wv ⟨rfl, hbx⟩
              have hbwwv : Below w.heap.size w wv := Below.next' hbwwu hbx hbwwu.size
              replace hsx3 := SegT.below hsx3 hbx
              replace hs20 := hs20.below hbx
              replace hs21 := hs21.below hbx
              clear hbx
              go_wp2
              go_ret
              exact ⟨rfl, hbwwv⟩
            · go_wp2_with fail
              refine (tcheck_no _ A20 N nF3 cx c20 t _ htn).mono ?_
              rintro e ws ⟨rfl, hbx⟩
              have hbwws : Below w.heap.size w ws := Below.next' hbwwr hbx hbwwr.size
              replace hsx3 := SegT.below hsx3 hbx
              replace hs20 := hs20.below hbx
              replace hs21 := hs21.below hbx
              clear hbx
              go_wp2_with fail
              refine (rCheck_no _ A20 N nF3 cx c20 t _ htn).mono ?_
              rintro e wt ⟨rfl, hbx⟩
              have hbwwt : Below w.heap.size w wt := Below.next' hbwws hbx hbwws.size
              replace hsx3 := SegT.below hsx3 hbx
              replace hs20 := hs20.below hbx
              replace hs21 := hs21.below hbx
              clear hbx
              go_wp2_with fail
              refine (tcheckKey_no _ A20 N nF3 cx c20 t _ htn).mono ?_
              rintro e wu ⟨rfl, hbx⟩
              have hbwwu : Below w.heap.size w wu := Below.next' hbwwt hbx hbwwt.size
              replace hsx3 := SegT.below hsx3 hbx
              replace hs20 := hs20.below hbx
              replace hs21 := hs21.below hbx
              clear hbx
              go_wp2_with fail
              refine (rCheckKey_no _ A20 N nF3 cx c20 t _ htn).mono ?_
              rintro e wv ⟨rfl, hbx⟩
              have hbwwv : Below w.heap.size w wv := Below.next' hbwwu hbx hbwwu.size
              replace hsx3 := SegT.below hsx3 hbx
              replace hs20 := hs20.below hbx
              replace hs21 := hs21.below hbx
              clear hbx
              go_wp2
              go_ret
              exact ⟨rfl, hbwwv⟩

end Go.Proofs.Ytcmagjeplofagaa
