/-
  The walk of the law TableRight.
-/
import Derived.Test.YtcmagjeplofagaaL31
import Derived.Test.YtcmagjeplofagaaWT12
import Derived.Test.YtcmagjeplofagaaWT13
import Derived.Test.YtcmagjeplofagaaQS
import Derived.Deep.DeepCutAuto
import Derived.Deep.CutBlock
namespace Go.Proofs.Ytcmagjeplofagaa
open Go.RowKit

def XT (w : World) (v : Value) (W : World) : Prop := ∃ A n c L, v = .slice A n c ∧ SegT W A n L ∧ n ≤ c ∧ c ≤ maxLen ∧ Below w.heap.size w W
theorem XT.of {w w2 W : World} {v : Value} {S : List TblS} (hw : Below w.heap.size w w2) (h : XL w2 W v S) : XT w v W := by
  obtain ⟨A, c, L, rfl, h1, h2, h3⟩ := h.segT
  exact ⟨A, _, c, L, rfl, h1, h2, h3, Below.trans hw (h.2.2.mono hw.size)⟩

set_option maxHeartbeats 40000000 in
set_option maxRecDepth 8000 in
theorem tableRight_core (A : Option Addr) (n c : Nat) (L : List Frm) (what at_ nn : Nat) (w : World)
    (ha : SegF w A n L) (hcn : n ≤ maxLen) (hwh : what ≤ 255) (hat : at_ ≤ 255) (hnn : nn ≤ 255) (hfew : fewB L = true) :
    Calls Try.prog 3 #[.slice A n c, .int .u8 (what : Int), .int .u8 (at_ : Int), .int .u8 (nn : Int)] w fun e w' => e = .returned (.bool true) ∧ Below w.heap.size w w' := by
  have hn6 : n ≤ 6 := by
    have := (Bool.and_eq_true _ _ ▸ hfew : _ ∧ _).2
    rw [decide_eq_true_eq, ha.len] at this
    exact this
  have hat' : (at_ : Int) ≤ 255 := by omega
  have hwh' : (what : Int) ≤ 255 := by omega
  have hnn' : (nn : Int) ≤ 255 := by omega
  go_enter Try.func3, Try.ntmps3
  go_wp2_with fail
  refine (tnoughts_any _).mono ?_
  rintro e w1 ⟨rfl, hb1⟩
  replace ha := SegF.below ha hb1
  go_wp2_with fail
  refine (few_any A n c L true _ ha hcn hfew).mono ?_
  rintro e w' ⟨rfl, rfl⟩
  go_wp2_with fail
  refine (tables_seg A n c L _ ha (by omega)).mono ?_
  rintro e w2 ⟨Ax, N, cx, T, rfl, hsx, hNc, hcm, hOk, hN1, hN4, hb2⟩
  have hbw2 : Below w.heap.size w w2 := Below.next' hb1 hb2 hb1.size
  clear hb2 ha
  go_wp2_with fail
  refine (right_tables Ax N cx T _ hsx (Nat.le_trans hNc hcm)).mono ?_
  rintro e w3 ⟨b3, rfl, hb3', hb3⟩
  obtain rfl : b3 = true := hb3'.2 hOk
  have hbw3 : Below w.heap.size w w3 := Below.next' hbw2 hb3 hbw2.size
  replace hsx := SegT.below hsx hb3
  clear hb3 hb3'
  go_wp2_with fail
  refine (rright_tables Ax N cx T _ hsx (Nat.le_trans hNc hcm)).mono ?_
  rintro e w4 ⟨b4, rfl, hb4', hb4⟩
  obtain rfl : b4 = true := hb4'.2 hOk
  have hbw4 : Below w.heap.size w w4 := Below.next' hbw3 hb4 hbw3.size
  replace hsx := SegT.below hsx hb4
  clear hb4 hb4'
  obtain ⟨S0, hS0, hSl, hSat⟩ := hsx
  have hS0N : S0.length = N := hS0.1
  have hTN : T.length = N := by rw [← hSl, hS0N]
  obtain ⟨k, hk⟩ : ∃ k : Nat, (at_ : Int) % (N : Int) = (k : Int) := ⟨at_ % N, by omega⟩
  have hkN : k < N := by have := Int.emod_lt_of_pos (at_ : Int) (show (0 : Int) < (N : Int) by omega); omega
  have hne0 : ((N : Int) == 0) = false := by rw [beq_eq_false_iff_ne]; omega
  have hk0 : (0 : Int) ≤ (k : Int) := by omega
  have hk1 : (k : Int) < (N : Int) := by omega
  have hSk : S0[k]? = some (S0[k]'(by omega)) := List.getElem?_eq_getElem _
  have hTk : T[k]? = some (T[k]'(by omega)) := List.getElem?_eq_getElem _
  obtain ⟨a1, a2, hsc, hmc, hccm⟩ := hSat k _ _ hSk hTk
  have hTok := hOk.2.2.2.2 (T[k]'(by omega)) (List.getElem_mem _)
  have hm1 : 1 ≤ (S0[k]'(by omega)).n := by have := hTok.1; have := hsc.1; omega
  have hm8 : (S0[k]'(by omega)).n ≤ 8 := by have := hTok.2.1; have := hsc.1; omega
  have hold : ∀ (j : Nat) (s : TblS), S0[j]? = some s → ∃ D, SegC w4 s.A s.n D ∧ s.n ≤ s.c ∧ s.c ≤ maxLen := fun j s hs => by
    have hj := (List.getElem?_eq_some_iff.1 hs).1
    obtain ⟨_, _, h1, h2, h3⟩ := hSat j s _ hs (List.getElem?_eq_getElem (by omega))
    exact ⟨_, h1, h2, h3⟩
  obtain ⟨⟨nm, A0, m, c0, q⟩, hse⟩ : ∃ s, S0[k]'(by omega) = s := ⟨_, rfl⟩
  rw [hse] at hSk hsc hmc hccm hm1 hm8
  simp only at hsc hmc hccm hm1 hm8
  obtain ⟨D, hD⟩ : ∃ D, (T[k]'(by omega)).cols = D := ⟨_, rfl⟩
  rw [hD] at hsc
  have HSK := Lib.hid hSk
  have HOLD := Lib.hid hold
  have HS0N := Lib.hid hS0N
  clear hSk hold hS0N hSat hTk hTok hSl hTN a1 a2 hse hD hOk
  obtain ⟨i, hi⟩ : ∃ i : Nat, (nn : Int) % (m : Int) = (i : Int) := ⟨nn % m, by omega⟩
  have him : i < m := by have := Int.emod_lt_of_pos (nn : Int) (show (0 : Int) < (m : Int) by omega); omega
  have hnem : ((m : Int) == 0) = false := by rw [beq_eq_false_iff_ne]; omega
  go_upto_block 0 with (first
    | (at_builtin
       refine wpList_append_G _ rfl (.const (.slice none 0 0)) (.tmp 36) _ _ _ _ tblT rfl w4.heap.size (.slice none 0 0) [] rfl (OwnG.nil _ _ _) Ax N cx S0 rfl hS0 (by simp; omega) (Nat.le_refl _) ?_
       intro v5 w5 ho5 hg5 hat5
       rw [List.nil_append] at ho5
       have hb5 : Below w4.heap.size w4 w5 := below_grownG (Below.refl _ _) (OwnG.nil (Y := tblLay) _ w4.heap.size 0) hg5 (Nat.le_refl _) (Nat.le_refl _)
       obtain ⟨gx, cx5, rfl, hlc5, hcm5, hgx5⟩ := ho5.head (by rw [HS0N.out]; omega)
       rw [HS0N.out] at ho5 hlc5
       rw [HS0N.out]
       obtain ⟨t0, t1, t2⟩ := tcells ho5 HS0N.out HSK.out
       have tf := XK.frozenX ho5 HS0N.out (k * 3 + 1)
       have hgxl := (ho5.lt gx rfl).2
       have hsc5 := SegG.below hsc hb5
       clear hg5 hat5 hgx5)
    | (at_builtin
       refine wpList_append_G _ rfl (.const (.slice none 0 0)) (.tmp 44) _ _ _ _ colT rfl w4.heap.size (.slice none 0 0) [] rfl (OwnG.nil _ _ _) A0 m c0 D rfl hsc5 (by simp; omega) hb5.size ?_
       intro v6 w6 ho6 hg6 hat6
       rw [List.nil_append] at ho6
       have hDm := hsc.1
       obtain ⟨gc, cc, rfl, hlc6, hcm6, hgc6⟩ := ho6.head (by omega)
       rw [hDm] at ho6 hlc6 hgc6
       rw [hDm]
       have hgc : gc = w5.heap.size := by
         rcases hat6 with h | h
         · rw [hDm, hgc6] at h; simp [Value.ownBlock] at h
         · rw [hDm, hgc6] at h; injection h
       have hb6 : Below w4.heap.size w4 w6 := below_grownG hb5 (OwnG.nil (Y := colLay) _ w4.heap.size 0) hg6 (Nat.le_refl _) hb5.size
       have hx6 : OwnG tblLay w6 w4.heap.size 30 (.slice (some ⟨gx, 0, none⟩) N cx5) S0 := ho5.kept hg6 (.inr (by simp [Value.ownBlock]))
       have hXK := XK.make hx6 HS0N.out HSK.out (fun j s _ h => HOLD.out j s h) ho6 hDm hm1 (by omega) hb6
       have tf6 := XK.frozenX hx6 HS0N.out (k * 3 + 1)
       obtain ⟨_, t1', _⟩ := tcells hx6 HS0N.out HSK.out
       have HXK := Lib.hid hXK
       clear hXK hat6 hg6 ho6 hx6 hgc hDm hgc6))
  have hK := HXK.out
  obtain ⟨S1, hS1⟩ : ∃ S1, S0.set k ⟨nm, some ⟨gc, 0, none⟩, m, cc, q⟩ = S1 := ⟨_, rfl⟩
  rw [hS1] at HXK hK
  clear hS1 t0 t1 t2 tf tf6 t1' hsc5 hb5 hb6 ho5 hS0 hsc
  generalize w6.setCell ⟨gx, k * 3 + 1, none⟩ (.slice (some ⟨gc, 0, none⟩) m cc) = W at *
  obtain ⟨t0, t1, t2, tf, hNcx, hcxm⟩ := hK.cells
  obtain ⟨y, hDy, y0, y1, y2, yf, hmcc, hccm'⟩ := hK.ccell i him
  have hgxB := hK.gxB
  have hgcB := hK.gcB
  have hS1N := hK.hN
  have hbel := hK.bel
  have hgne := hK.hne
  have HS1N := Lib.hid hS1N
  have HDY := Lib.hid hDy
  have i0 : (0 : Int) ≤ (i : Int) := by omega
  have i1 : (i : Int) < (m : Int) := by omega
  clear hK hS1N hDy
  rw [hi]
  clear hi
  go_cut [11] from 13 (fun v wd => XT w v wd)
  case first =>
    rcases (show what % 12 = 0 ∨ what % 12 = 1 ∨ what % 12 = 2 ∨ what % 12 = 3 ∨ what % 12 = 4 ∨ what % 12 = 5 ∨ what % 12 = 6 ∨ what % 12 = 7 ∨ what % 12 = 8 ∨ what % 12 = 9 ∨ what % 12 = 10 ∨ what % 12 = 11 by omega) with hr | hr | hr | hr | hr | hr | hr | hr | hr | hr | hr | hr
    · have hw : (what : Int) % 12 = 0 := by omega
      clear hr
      go_wp2_with fail
      go_meet
      case rel => exact ⟨none, 0, 0, [], rfl, SegN.nil _ _, Nat.le_refl _, Nat.zero_le _, Below.trans hbw4 (hbel.mono hbw4.size)⟩
    · have hw : (what : Int) % 12 = 1 := by omega
      clear hr
      go_wp2_with (
        at_builtin
        refine wpList_append_G _ rfl (.tmp 82) (.tmp 87) _ _ _ _ tblT rfl w4.heap.size (.slice (some ⟨gx, 0, none⟩) N cx5) S1 rfl (HXK.out.hx.alloc _) _ 1 1 [⟨nm, some ⟨gc, 0, none⟩, m, cc, q⟩] rfl (SegG.newAt _ _ _ _ _ _ rfl rfl rfl) (by rw [HS1N.out]; omega) (by have := hbel.size; simp; omega) ?_
        intro v7 w7 ho7 hg7 hat7
        have HP := Lib.hid (XL.push (HXK.out.xl.alloc _) ((HXK.out.own_colW nm q).alloc _) ho7 hg7 hat7)
        clear ho7 hg7 hat7)
      go_meet
      case rel => exact XT.of hbw4 HP.out
    · have hw : (what : Int) % 12 = 2 := by omega
      clear hr
      go_wp2_with fail
      go_meet
      case rel => exact XT.of hbw4 (HXK.out.setT 0 (by omega) ⟨⟨#[]⟩, some ⟨gc, 0, none⟩, m, cc, q⟩ _ rfl (HXK.out.own_colW _ _))
    · have hw : (what : Int) % 12 = 3 := by omega
      clear hr
      obtain ⟨d, hd⟩ : ∃ d : Nat, (nn : Int) % 10 = (d : Int) := ⟨nn % 10, by omega⟩
      have hd9 : d ≤ 9 := by omega
      go_wp2_with (at_make
                   refine wpList_make_bytes _ rfl (.tmp 102) (.tmp 102) _ _ bt rfl W.heap.size .i64 .i64 (15 + (d : Int)) (15 + (d : Int)) (15 + d) rfl rfl (by omega) (by omega) (by omega) (Nat.le_refl _) ?_
                   intro w7 ho7 hg7
                   obtain ⟨A7, c7, hv7, hs7, _, _⟩ := ho7.forms
                   obtain ⟨tx, htx⟩ : ∃ t : ByteArray, (⟨(List.replicate (15 + d) (0 : UInt8)).toArray⟩ : ByteArray) = t := ⟨_, rfl⟩
                   have hsx : Seg w7 (some ⟨W.heap.size, 0, none⟩) (15 + d) (List.replicate (15 + d) 0) := by
                     rw [List.length_replicate] at hv7 hs7
                     injection hv7 with e1
                     rw [e1]
                     exact hs7
                   have kc := run_string_seg (P := Try.prog) w7 31 9 5 bt Try.underlying9 _ (15 + d) (15 + d) _ hsx
                   rw [htx] at kc
                   have hb7 : Below W.heap.size W w7 := (Below.refl _ _).grown hg7 (Nat.le_refl _) (by simp)
                   have HK7 := Lib.hid (HXK.out.below hb7)
                   obtain ⟨r0, r1, r2, rf, _, _⟩ := HK7.out.cells
                   clear ho7 hg7 hv7 hs7 hsx htx)
      go_meet
      case rel => exact XT.of hbw4 (HK7.out.setT 0 (by omega) ⟨tx, some ⟨gc, 0, none⟩, m, cc, q⟩ _ rfl (HK7.out.own_colW _ _))
    · have hw : (what : Int) % 12 = 4 := by omega
      clear hr
      go_wp2_with fail
      go_meet
      case rel => exact XT.of hbw4 (HXK.out.setT 1 (by omega) ⟨nm, none, 0, 0, q⟩ _ rfl ⟨[], SegG.nil _ _, Nat.le_refl _, Nat.zero_le _, .inl rfl⟩)
    · have hw : (what : Int) % 12 = 5 := by omega
      clear hr
      go_wp2_with fail
      go_meet
      case rel => exact XT.of hbw4 (HXK.out.setT 2 (by omega) ⟨nm, some ⟨gc, 0, none⟩, m, cc, (nn : Int) - 3⟩ _ rfl (HXK.out.own_colW _ _))
    · have hw : (what : Int) % 12 = 6 := by omega
      clear hr
      go_wp2_with fail
      go_meet
      case rel => exact XT.of hbw4 (HXK.out.setC i him 1 (by omega) ⟨y.s, (nn : Int), y.b⟩ _ (fun z hz => by obtain rfl : z = y := Option.some.inj (hz.symm.trans HDY.out); rfl)).xl
    · have hw : (what : Int) % 12 = 7 := by omega
      clear hr
      go_wp2_with fail
      go_meet
      case rel => exact XT.of hbw4 (HXK.out.setC i him 2 (by omega) ⟨y.s, y.k, true⟩ _ (fun z hz => by obtain rfl : z = y := Option.some.inj (hz.symm.trans HDY.out); rfl)).xl
    · have hw : (what : Int) % 12 = 8 := by omega
      clear hr
      obtain ⟨z, _, z0, _, _, _, _, _⟩ := HXK.out.ccell 0 (by omega)
      simp only [Nat.zero_mul] at z0
      have m0 : (0 : Int) < (m : Int) := by omega
      have mne : ¬ m = 0 := by omega
      go_wp2_with fail
      refine wp_region_noPanic (wp_region_till (fun W' => W'.cell? ⟨gx, k * 3 + 1, none⟩ = some (.slice (some ⟨gc, 0, none⟩) m cc) ∧ W'.cell? ⟨gc, 0, none⟩ = some (.string z.s)) 16 (by kernel_rfl) ?_)
      change wpAnyT _ _ _ _ _ _ 17 _ _ _
      refine wpAnyT_take (i := 0) (v := .slice (some ⟨gx, 0, none⟩) N cx5) rfl (by decide +kernel) (fun _ _ _ h => h) ⟨t1, z0⟩ (Or.inl ⟨rfl, fun W' hW => by obtain ⟨c0, c1⟩ := hW; go_simp⟩) ?_
      refine wpAnyT_take (i := 1) (v := .int .i64 (k : Int)) rfl (by decide +kernel) (fun _ _ _ h => h) ⟨t1, z0⟩ (Or.inl ⟨rfl, fun W' hW => by obtain ⟨c0, c1⟩ := hW; go_simp⟩) ?_
      refine wpAnyT_take (i := 2) (v := .pointer (some ⟨gx, k * 3, none⟩)) rfl (by decide +kernel) (fun _ _ _ h => h) ⟨t1, z0⟩ (Or.inl ⟨rfl, fun W' hW => by obtain ⟨c0, c1⟩ := hW; go_simp⟩) ?_
      refine wpAnyT_take (i := 3) (v := .pointer (some ⟨gx, k * 3 + 1, none⟩)) rfl (by decide +kernel) (fun _ _ _ h => h) ⟨t1, z0⟩ (Or.inl ⟨rfl, fun W' hW => by obtain ⟨c0, c1⟩ := hW; go_simp⟩) ?_
      refine wpAnyT_take (i := 4) (v := .slice (some ⟨gc, 0, none⟩) m cc) rfl (by decide +kernel) (fun _ _ _ h => h) ⟨t1, z0⟩ (Or.inl ⟨rfl, fun W' hW => by obtain ⟨c0, c1⟩ := hW; go_simp⟩) ?_
      refine wpAnyT_take (i := 5) (v := .int .i64 (i : Int)) rfl (by decide +kernel) (fun _ _ _ h => h) ⟨t1, z0⟩ (Or.inl ⟨rfl, fun W' hW => by obtain ⟨c0, c1⟩ := hW; go_simp⟩) ?_
      refine wpAnyT_take (i := 6) (v := .slice (some ⟨gx, 0, none⟩) N cx5) rfl (by decide +kernel) (fun _ _ _ h => h) ⟨t1, z0⟩ (Or.inl ⟨rfl, fun W' hW => by obtain ⟨c0, c1⟩ := hW; go_simp⟩) ?_
      refine wpAnyT_take (i := 7) (v := .int .i64 (k : Int)) rfl (by decide +kernel) (fun _ _ _ h => h) ⟨t1, z0⟩ (Or.inl ⟨rfl, fun W' hW => by obtain ⟨c0, c1⟩ := hW; go_simp⟩) ?_
      refine wpAnyT_take (i := 8) (v := .pointer (some ⟨gx, k * 3, none⟩)) rfl (by decide +kernel) (fun _ _ _ h => h) ⟨t1, z0⟩ (Or.inl ⟨rfl, fun W' hW => by obtain ⟨c0, c1⟩ := hW; go_simp⟩) ?_
      refine wpAnyT_take (i := 9) (v := .pointer (some ⟨gx, k * 3 + 1, none⟩)) rfl (by decide +kernel) (fun _ _ _ h => h) ⟨t1, z0⟩ (Or.inl ⟨rfl, fun W' hW => by obtain ⟨c0, c1⟩ := hW; go_simp⟩) ?_
      refine wpAnyT_take (i := 10) (v := .slice (some ⟨gc, 0, none⟩) m cc) rfl (by decide +kernel) (fun _ _ _ h => h) ⟨t1, z0⟩ (Or.inl ⟨rfl, fun W' hW => by obtain ⟨c0, c1⟩ := hW; go_simp⟩) ?_
      refine wpAnyT_take (i := 11) (v := .pointer (some ⟨gc, 0, none⟩)) rfl (by decide +kernel) (fun _ _ _ h => h) ⟨t1, z0⟩ (Or.inl ⟨rfl, fun W' hW => by obtain ⟨c0, c1⟩ := hW; go_simp⟩) ?_
      refine wpAnyT_take (i := 12) (v := .pointer (some ⟨gc, 0, none⟩)) rfl (by decide +kernel) (fun _ _ _ h => h) ⟨t1, z0⟩ (Or.inl ⟨rfl, fun W' hW => by obtain ⟨c0, c1⟩ := hW; go_simp⟩) ?_
      refine wpAnyT_take (i := 13) (v := .string z.s) rfl (by decide +kernel) (fun _ _ _ h => h) ⟨t1, z0⟩ (Or.inl ⟨rfl, fun W' hW => by obtain ⟨c0, c1⟩ := hW; go_simp⟩) ?_
      refine wpAnyT_step 14 rfl (by decide +kernel) ?_
      go_wp2_with fail
      refine ⟨.inr ⟨t1, z0⟩, ?_⟩
      refine wpAnyT_step 15 rfl (by decide +kernel) ?_
      go_wp2_with fail
      refine ⟨.inr ⟨t1, z0⟩, ?_⟩
      refine wpAnyT_step 16 rfl (by decide +kernel) ?_
      go_wp2_with fail
      refine ⟨.inl trivial, ?_⟩
      refine wpAnyT_done (by decide +kernel) (NoPanic.normal ?_)
      go_wp2_with fail
      go_meet
      case rel => exact XT.of hbw4 (HXK.out.drew.setC i him 0 (by omega) ⟨z.s, y.k, y.b⟩ _ (fun z hz => by obtain rfl : z = y := Option.some.inj (hz.symm.trans HDY.out); rfl)).xl
    · have hw : (what : Int) % 12 = 9 := by omega
      clear hr
      obtain ⟨d, hd⟩ : ∃ d : Nat, (nn : Int) % 10 = (d : Int) := ⟨nn % 10, by omega⟩
      have hd9 : d ≤ 9 := by omega
      have hdt : (nn : Int).tmod 10 = (d : Int) := by rw [Int.tmod_eq_emod_of_nonneg (by omega)]; exact hd
      have wr1 : IntKind.u8.wrap (d : Int) = (d : Int) := wrap_u8 _ (by omega) (by omega)
      have wr2 : IntKind.i64.wrap (d : Int) = (d : Int) := IntWalk.i64_in _ (by omega)
      have wr3 : IntKind.i64.wrap (15 + (d : Int)) = 15 + (d : Int) := IntWalk.i64_in _ (by omega)
      go_wp2_with fail
      refine wp_region_noPanic (wp_region_till (fun W' => W'.cell? ⟨gx, k * 3 + 1, none⟩ = some (.slice (some ⟨gc, 0, none⟩) m cc)) 14 (by kernel_rfl) ?_)
      change wpAnyT _ _ _ _ _ _ 15 _ _ _
      refine wpAnyT_take (i := 0) (v := .slice (some ⟨gx, 0, none⟩) N cx5) rfl (by decide +kernel) (fun _ _ _ h => h) t1 (Or.inl ⟨rfl, fun W' hW => by have c1 : W'.cell? ⟨gx, k * 3 + 1, none⟩ = _ := hW; go_simp⟩) ?_
      refine wpAnyT_take (i := 1) (v := .int .i64 (k : Int)) rfl (by decide +kernel) (fun _ _ _ h => h) t1 (Or.inl ⟨rfl, fun W' hW => by have c1 : W'.cell? ⟨gx, k * 3 + 1, none⟩ = _ := hW; go_simp⟩) ?_
      refine wpAnyT_take (i := 2) (v := .pointer (some ⟨gx, k * 3, none⟩)) rfl (by decide +kernel) (fun _ _ _ h => h) t1 (Or.inl ⟨rfl, fun W' hW => by have c1 : W'.cell? ⟨gx, k * 3 + 1, none⟩ = _ := hW; go_simp⟩) ?_
      refine wpAnyT_take (i := 3) (v := .pointer (some ⟨gx, k * 3 + 1, none⟩)) rfl (by decide +kernel) (fun _ _ _ h => h) t1 (Or.inl ⟨rfl, fun W' hW => by have c1 : W'.cell? ⟨gx, k * 3 + 1, none⟩ = _ := hW; go_simp⟩) ?_
      refine wpAnyT_take (i := 4) (v := .slice (some ⟨gc, 0, none⟩) m cc) rfl (by decide +kernel) (fun _ _ _ h => h) t1 (Or.inl ⟨rfl, fun W' hW => by have c1 : W'.cell? ⟨gx, k * 3 + 1, none⟩ = _ := hW; go_simp⟩) ?_
      refine wpAnyT_take (i := 5) (v := .int .i64 (i : Int)) rfl (by decide +kernel) (fun _ _ _ h => h) t1 (Or.inl ⟨rfl, fun W' hW => by have c1 : W'.cell? ⟨gx, k * 3 + 1, none⟩ = _ := hW; go_simp⟩) ?_
      refine wpAnyT_take (i := 6) (v := .int .u8 (nn : Int)) rfl (by decide +kernel) (fun _ _ _ h => h) t1 (Or.inl ⟨rfl, fun W' hW => by have c1 : W'.cell? ⟨gx, k * 3 + 1, none⟩ = _ := hW; go_simp⟩) ?_
      refine wpAnyT_take (i := 7) (v := .int .u8 (d : Int)) rfl (by decide +kernel) (fun _ _ _ h => h) t1 (Or.inl ⟨rfl, fun W' hW => by have c1 : W'.cell? ⟨gx, k * 3 + 1, none⟩ = _ := hW; go_simp⟩) ?_
      refine wpAnyT_take (i := 8) (v := .int .i64 (d : Int)) rfl (by decide +kernel) (fun _ _ _ h => h) t1 (Or.inl ⟨rfl, fun W' hW => by have c1 : W'.cell? ⟨gx, k * 3 + 1, none⟩ = _ := hW; go_simp⟩) ?_
      refine wpAnyT_take (i := 9) (v := .int .i64 (15 + (d : Int))) rfl (by decide +kernel) (fun _ _ _ h => h) t1 (Or.inl ⟨rfl, fun W' hW => by have c1 : W'.cell? ⟨gx, k * 3 + 1, none⟩ = _ := hW; go_simp⟩) ?_
      refine wpAnyT_step 10 rfl (by decide +kernel) ?_
      refine wpList_make_bytes _ rfl (.tmp 172) (.tmp 172) _ _ bt rfl W.heap.size .i64 .i64 (15 + (d : Int)) (15 + (d : Int)) (15 + d) (by go_simp) (by go_simp) (by omega) (by omega) (by omega) (Nat.le_refl _) ?_
      intro w7 ho7 hg7
      obtain ⟨A7, c7, hv7, hs7, _, _⟩ := ho7.forms
      obtain ⟨tx, htx⟩ : ∃ t : ByteArray, (⟨(List.replicate (15 + d) (0 : UInt8)).toArray⟩ : ByteArray) = t := ⟨_, rfl⟩
      have hsx : Seg w7 (some ⟨W.heap.size, 0, none⟩) (15 + d) (List.replicate (15 + d) 0) := by
        rw [List.length_replicate] at hv7 hs7
        injection hv7 with e1
        exact e1 ▸ hs7
      have kc := run_string_seg (P := Try.prog) w7 31 9 5 bt Try.underlying9 _ (15 + d) (15 + d) _ hsx
      rw [htx] at kc
      have hb7 : Below W.heap.size W w7 := Below.grown (Below.refl _ _).drew hg7 (Nat.le_refl _) (by simp)
      have HK7 := Lib.hid (HXK.out.below hb7)
      obtain ⟨r0, r1, r2, _, _, _⟩ := HK7.out.cells
      obtain ⟨y', _, s0, _, _, sf, _, _⟩ := HK7.out.ccell i him
      clear ho7 hg7 hv7 hs7 hsx htx
      change (_ ∨ _) ∧ wpAnyT _ _ _ _ _ _ 4 _ _ w7
      refine ⟨.inr r1, ?_⟩
      refine wpAnyT_step 11 rfl (by decide +kernel) ?_
      go_wp2_with fail
      refine ⟨.inr r1, ?_⟩
      refine wpAnyT_step 12 rfl (by decide +kernel) ?_
      go_wp2_with fail
      refine ⟨.inr r1, ?_⟩
      refine wpAnyT_step 13 rfl (by decide +kernel) ?_
      go_wp2_with fail
      refine ⟨.inr r1, ?_⟩
      refine wpAnyT_step 14 rfl (by decide +kernel) ?_
      go_wp2_with fail
      refine ⟨.inl trivial, ?_⟩
      refine wpAnyT_done (by decide +kernel) (NoPanic.normal ?_)
      go_wp2_with fail
      go_meet
      case rel => exact XT.of hbw4 (HK7.out.setC i him 0 (by omega) ⟨tx, y.k, y.b⟩ _ (fun z hz => by obtain rfl : z = y := Option.some.inj (hz.symm.trans HDY.out); rfl)).xl
    · have hw : (what : Int) % 12 = 10 := by omega
      clear hr
      obtain ⟨e, he⟩ : ∃ e : Nat, (nn : Int) % 12 = (e : Int) := ⟨nn % 12, by omega⟩
      have he11 : e ≤ 11 := by omega
      go_wp2_with fail
      clear y0 y1 y2 yf i0 i1 t0 t1 t2
      go_loopw [] (fun w' => ∃ gc m cc S D, XK w4 w' gx cx5 N k gc m cc S nm q D ∧ m ≤ 11) (fun w' => 12 - colsN w' ⟨gx, k * 3 + 1, none⟩)
      case atStart => exact ⟨gc, m, cc, S1, D, HXK.out, by omega⟩
      case round =>
        rename World => wq
        clear hmcc hccm' hgcB hbel hgne HS1N HDY HXK him hnem hm1 hm8 hmc hlc6 hcm6
        obtain ⟨gc, m, cc, S, D, hK, hm11⟩ := hrel
        obtain ⟨t0, t1, t2, tf, _, _⟩ := hK.cells
        have hgx := hK.gxB
        have HK := Lib.hid hK
        have hcN : colsN wq ⟨gx, k * 3 + 1, none⟩ = m := by unfold colsN; rw [t1]; rfl
        have HCN := Lib.hid hcN
        clear hK hcN
        by_cases hgo : m < e
        · have hgo' : (m : Int) < (e : Int) := by omega
          have wr1 : IntKind.u8.wrap (m : Int) = (m : Int) := wrap_u8 _ (by omega) (by omega)
          go_wp2_with fail
          have kz := run_zn wq m (by omega)
          refine wp_region_noPanic (wp_region_till (fun W' => W'.cell? ⟨gx, k * 3 + 1, none⟩ = some (.slice (some ⟨gc, 0, none⟩) m cc)) 21 (by kernel_rfl) ?_)
          change wpAnyT _ _ _ _ _ _ 22 _ _ _
          refine wpAnyT_take (i := 0) (v := .slice (some ⟨gx, 0, none⟩) N cx5) rfl (by decide +kernel) (fun _ _ _ h => h) t1 (Or.inl ⟨rfl, fun W' hW => by have c1 : W'.cell? ⟨gx, k * 3 + 1, none⟩ = _ := hW; go_simp⟩) ?_
          refine wpAnyT_take (i := 1) (v := .int .i64 (k : Int)) rfl (by decide +kernel) (fun _ _ _ h => h) t1 (Or.inl ⟨rfl, fun W' hW => by have c1 : W'.cell? ⟨gx, k * 3 + 1, none⟩ = _ := hW; go_simp⟩) ?_
          refine wpAnyT_take (i := 2) (v := .slice (some ⟨gx, 0, none⟩) N cx5) rfl (by decide +kernel) (fun _ _ _ h => h) t1 (Or.inl ⟨rfl, fun W' hW => by have c1 : W'.cell? ⟨gx, k * 3 + 1, none⟩ = _ := hW; go_simp⟩) ?_
          refine wpAnyT_take (i := 3) (v := .int .i64 (k : Int)) rfl (by decide +kernel) (fun _ _ _ h => h) t1 (Or.inl ⟨rfl, fun W' hW => by have c1 : W'.cell? ⟨gx, k * 3 + 1, none⟩ = _ := hW; go_simp⟩) ?_
          refine wpAnyT_take (i := 4) (v := .pointer (some ⟨gx, k * 3, none⟩)) rfl (by decide +kernel) (fun _ _ _ h => h) t1 (Or.inl ⟨rfl, fun W' hW => by have c1 : W'.cell? ⟨gx, k * 3 + 1, none⟩ = _ := hW; go_simp⟩) ?_
          refine wpAnyT_take (i := 5) (v := .pointer (some ⟨gx, k * 3 + 1, none⟩)) rfl (by decide +kernel) (fun _ _ _ h => h) t1 (Or.inl ⟨rfl, fun W' hW => by have c1 : W'.cell? ⟨gx, k * 3 + 1, none⟩ = _ := hW; go_simp⟩) ?_
          refine wpAnyT_take (i := 6) (v := .slice (some ⟨gc, 0, none⟩) m cc) rfl (by decide +kernel) (fun _ _ _ h => h) t1 (Or.inl ⟨rfl, fun W' hW => by have c1 : W'.cell? ⟨gx, k * 3 + 1, none⟩ = _ := hW; go_simp⟩) ?_
          refine wpAnyT_take (i := 7) (v := .slice (some ⟨gx, 0, none⟩) N cx5) rfl (by decide +kernel) (fun _ _ _ h => h) t1 (Or.inl ⟨rfl, fun W' hW => by have c1 : W'.cell? ⟨gx, k * 3 + 1, none⟩ = _ := hW; go_simp⟩) ?_
          refine wpAnyT_take (i := 8) (v := .int .i64 (k : Int)) rfl (by decide +kernel) (fun _ _ _ h => h) t1 (Or.inl ⟨rfl, fun W' hW => by have c1 : W'.cell? ⟨gx, k * 3 + 1, none⟩ = _ := hW; go_simp⟩) ?_
          refine wpAnyT_take (i := 9) (v := .pointer (some ⟨gx, k * 3, none⟩)) rfl (by decide +kernel) (fun _ _ _ h => h) t1 (Or.inl ⟨rfl, fun W' hW => by have c1 : W'.cell? ⟨gx, k * 3 + 1, none⟩ = _ := hW; go_simp⟩) ?_
          refine wpAnyT_take (i := 10) (v := .pointer (some ⟨gx, k * 3 + 1, none⟩)) rfl (by decide +kernel) (fun _ _ _ h => h) t1 (Or.inl ⟨rfl, fun W' hW => by have c1 : W'.cell? ⟨gx, k * 3 + 1, none⟩ = _ := hW; go_simp⟩) ?_
          refine wpAnyT_take (i := 11) (v := .slice (some ⟨gc, 0, none⟩) m cc) rfl (by decide +kernel) (fun _ _ _ h => h) t1 (Or.inl ⟨rfl, fun W' hW => by have c1 : W'.cell? ⟨gx, k * 3 + 1, none⟩ = _ := hW; go_simp⟩) ?_
          refine wpAnyT_take (i := 12) (v := .int .i64 (m : Int)) rfl (by decide +kernel) (fun _ _ _ h => h) t1 (Or.inl ⟨rfl, fun W' hW => by have c1 : W'.cell? ⟨gx, k * 3 + 1, none⟩ = _ := hW; go_simp⟩) ?_
          refine wpAnyT_take (i := 13) (v := .int .u8 (m : Int)) rfl (by decide +kernel) (fun _ _ _ h => h) t1 (Or.inl ⟨rfl, fun W' hW => by have c1 : W'.cell? ⟨gx, k * 3 + 1, none⟩ = _ := hW; go_simp⟩) ?_
          refine wpAnyT_step 14 rfl (by decide +kernel) ?_
          go_wp2_with fail
          refine ⟨.inr (cell_alloc _ t1), ?_⟩
          refine wpAnyT_step 15 rfl (by decide +kernel) ?_
          go_wp2_with fail
          refine ⟨.inr (cell_alloc _ t1), ?_⟩
          refine wpAnyT_take (i := 16) (v := .agg #[.string (zedN m), .int .u8 1, .bool false]) rfl (by decide +kernel) (fun _ _ _ h => h) (cell_alloc _ t1) (Or.inl ⟨rfl, fun W' hW => by go_simp⟩) ?_
          refine wpAnyT_step 17 rfl (by decide +kernel) ?_
          go_wp2_with fail
          refine ⟨.inr (cell_alloc _ (cell_alloc _ t1)), ?_⟩
          have HKX := Lib.hid ((HK.out.alloc (.cells #[.int .u8 122, .int .u8 (m : Int)] 5)).alloc (.cells #[.string (zedN m), .int .u8 1, .bool false] 33)).drew
          refine wpAnyT_step 18 rfl (by decide +kernel) ?_
          refine wpList_append_G _ rfl (.tmp 195) (.tmp 206) _ _ _ _ colT rfl w4.heap.size (.slice (some ⟨gc, 0, none⟩) m cc) D rfl HKX.out.hc _ 1 1 [⟨zedN m, 1, false⟩] rfl (SegG.newAt _ _ _ _ _ _ (by simp) rfl rfl) (by rw [HK.out.hm]; omega) HKX.out.bel.size ?_
          intro v7 w7 ho7 hg7 hat7
          obtain ⟨gc', cc', rfl, r1, rf, hK7⟩ := HKX.out.grow ho7 hg7 hat7
          have HK7 := Lib.hid hK7
          clear hK7 ho7 hg7 hat7
          change (_ ∨ _) ∧ wpAnyT _ _ _ _ _ _ 3 _ _ w7
          refine ⟨.inr r1, ?_⟩
          refine wpAnyT_step 19 rfl (by decide +kernel) ?_
          go_wp2_with fail
          refine ⟨.inr r1, ?_⟩
          refine wpAnyT_step 20 rfl (by decide +kernel) ?_
          go_wp2_with fail
          refine ⟨.inr r1, ?_⟩
          refine wpAnyT_step 21 rfl (by decide +kernel) ?_
          go_wp2_with fail
          refine ⟨.inl trivial, ?_⟩
          refine wpAnyT_done (by decide +kernel) (NoPanic.normal ?_)
          go_wp2
          go_roundw
          case rel => exact ⟨gc', m + 1, cc', _, _, HK7.out, by omega⟩
          case measure =>
            have hc1 : colsN (w7.setCell ⟨gx, k * 3 + 1, none⟩ (.slice (some ⟨gc', 0, none⟩) (m + 1) cc')) ⟨gx, k * 3 + 1, none⟩ = m + 1 := by unfold colsN; rw [HK7.out.cells.2.1]; rfl
            rw [HCN.out, hc1]
            omega
        · have hgo' : (e : Int) ≤ (m : Int) := by omega
          go_wp2_with fail
          go_meet
          case rel => exact XT.of hbw4 HK.out.xl
    · have hw : (what : Int) % 12 = 11 := by omega
      clear hr
      obtain ⟨e, he⟩ : ∃ e : Nat, (nn : Int) % 6 = (e : Int) := ⟨nn % 6, by omega⟩
      have he11 : e ≤ 5 := by omega
      go_wp2_with fail
      clear y0 y1 y2 yf i0 i1 t0 t1 t2
      go_loopw [11] (fun v w' => ∃ S, XL w4 w' v S ∧ 1 ≤ S.length ∧ S.length ≤ 6) (fun v _ => 12 - sliceN v)
      case atStart => exact ⟨S1, HXK.out.xl, by rw [HS1N.out]; omega, by rw [HS1N.out]; omega⟩
      case round =>
        rename World => wq
        clear hmcc hccm' hgcB hbel hgne HS1N HDY HXK him hnem hm1 hm8 hmc hlc6 hcm6 hgxB tf hNcx hcxm
        obtain ⟨S, hX, hS1, hS6⟩ := hrel
        obtain ⟨g, cx6, s, rfl, hlc, hcm', hs0, t1⟩ := hX.first hS1
        obtain ⟨M, hM⟩ : ∃ M, S.length = M := ⟨_, rfl⟩
        rw [hM] at hX hS1 hS6 hlc ⊢
        have HM := Lib.hid hM
        have HX := Lib.hid hX
        have HS0 := Lib.hid hs0
        obtain ⟨sA, sn, sc⟩ : ∃ x : Option Addr × Nat × Nat, True := ⟨(s.A, s.n, s.c), trivial⟩
        clear hM hX hs0
        by_cases hgo : M < e
        · have hgo' : (M : Int) < (e : Int) := by omega
          have wr1 : IntKind.u8.wrap (M : Int) = (M : Int) := wrap_u8 _ (by omega) (by omega)
          have hM0 : (0 : Int) < (M : Int) := by omega
          have hMne : ¬ M = 0 := by omega
          go_wp2_with fail
          have kz := run_zn wq M (by omega)
          refine wp_region_noPanic (wp_region_tills (fun W' => W'.cell? ⟨g, 1, none⟩ = some (.slice s.A s.n s.c)) (fun j => decide (12 ≤ j)) (by kernel_rfl) ?_)
          change wpAnyS _ _ _ _ _ _ 14 _ _ _
          refine wpAnyS_take (i := 0) (v := .slice (some ⟨g, 0, none⟩) M cx6) rfl (by decide +kernel) (fun _ _ _ h => h) t1 (Or.inl ⟨rfl, fun W' hW => by have c1 : W'.cell? ⟨g, 1, none⟩ = _ := hW; go_simp⟩) ?_
          refine wpAnyS_take (i := 1) (v := .slice (some ⟨g, 0, none⟩) M cx6) rfl (by decide +kernel) (fun _ _ _ h => h) t1 (Or.inl ⟨rfl, fun W' hW => by have c1 : W'.cell? ⟨g, 1, none⟩ = _ := hW; go_simp⟩) ?_
          refine wpAnyS_take (i := 2) (v := .int .i64 (M : Int)) rfl (by decide +kernel) (fun _ _ _ h => h) t1 (Or.inl ⟨rfl, fun W' hW => by have c1 : W'.cell? ⟨g, 1, none⟩ = _ := hW; go_simp⟩) ?_
          refine wpAnyS_take (i := 3) (v := .int .u8 (M : Int)) rfl (by decide +kernel) (fun _ _ _ h => h) t1 (Or.inl ⟨rfl, fun W' hW => by have c1 : W'.cell? ⟨g, 1, none⟩ = _ := hW; go_simp⟩) ?_
          refine wpAnyS_take (i := 6) (v := .slice (some ⟨g, 0, none⟩) M cx6) rfl (by decide +kernel) (fun _ _ _ h => h) t1 (Or.inl ⟨rfl, fun W' hW => by have c1 : W'.cell? ⟨g, 1, none⟩ = _ := hW; go_simp⟩) ?_
          refine wpAnyS_take (i := 7) (v := .pointer (some ⟨g, 0, none⟩)) rfl (by decide +kernel) (fun _ _ _ h => h) t1 (Or.inl ⟨rfl, fun W' hW => by have c1 : W'.cell? ⟨g, 1, none⟩ = _ := hW; go_simp⟩) ?_
          refine wpAnyS_take (i := 8) (v := .pointer (some ⟨g, 1, none⟩)) rfl (by decide +kernel) (fun _ _ _ h => h) t1 (Or.inl ⟨rfl, fun W' hW => by have c1 : W'.cell? ⟨g, 1, none⟩ = _ := hW; go_simp⟩) ?_
          refine wpAnyS_take (i := 9) (v := .slice s.A s.n s.c) rfl (by decide +kernel) (fun _ _ _ h => h) t1 (Or.inl ⟨rfl, fun W' hW => by have c1 : W'.cell? ⟨g, 1, none⟩ = _ := hW; go_simp⟩) ?_
          refine wpAnyS_step 4 rfl (by decide +kernel) ?_
          go_wp2_with fail
          refine ⟨.inr (cell_alloc _ t1), ?_⟩
          refine wpAnyS_step 5 rfl (by decide +kernel) ?_
          go_wp2_with fail
          refine ⟨.inr (cell_alloc _ t1), ?_⟩
          refine wpAnyS_take (i := 10) (v := .agg #[.string (zedN M), .slice s.A s.n s.c, .int .i64 1]) rfl (by decide +kernel) (fun _ _ _ h => h) (cell_alloc _ t1) (Or.inl ⟨rfl, fun W' hW => by go_simp⟩) ?_
          refine wpAnyS_step 11 rfl (by decide +kernel) ?_
          go_wp2_with fail
          refine ⟨.inr (cell_alloc _ (cell_alloc _ t1)), ?_⟩
          have HKX := Lib.hid ((HX.out.alloc (.cells #[.int .u8 122, .int .u8 (M : Int)] 5)).alloc (.cells #[.string (zedN M), .slice s.A s.n s.c, .int .i64 1] 30)).drew
          refine wpAnyS_step 12 rfl (by decide +kernel) ?_
          refine wpList_append_G _ rfl (.tmp 65) (.tmp 76) _ _ _ _ tblT rfl w4.heap.size (.slice (some ⟨g, 0, none⟩) M cx6) S rfl HKX.out.1 _ 1 1 [⟨zedN M, s.A, s.n, s.c, 1⟩] rfl (SegG.newAt _ _ _ _ _ _ (by simp) rfl rfl) (by rw [HM.out]; omega) HKX.out.2.2.size ?_
          intro v7 w7 ho7 hg7 hat7
          have hcw : ColW _ (Value.ownBlock (.slice (some ⟨g, 0, none⟩) M cx6)) ⟨zedN M, s.A, s.n, s.c, 1⟩ := HKX.out.2.1 s (List.mem_of_getElem? HS0.out)
          have HP := Lib.hid (XL.push HKX.out hcw ho7 hg7 hat7)
          have hl7 : (S ++ [(⟨zedN M, s.A, s.n, s.c, 1⟩ : TblS)]).length = M + 1 := by rw [List.length_append, HM.out]; rfl
          obtain ⟨A7, c7, rfl, _, _, _⟩ := ho7.forms
          rw [hl7] at HP ⊢
          have HL7 := Lib.hid hl7
          clear ho7 hg7 hat7 hcw hl7
          change (_ ∨ _) ∧ wpAnyS _ _ _ _ _ _ 1 _ _ w7
          refine ⟨.inl rfl, ?_⟩
          refine wpAnyS_step 13 rfl (by decide +kernel) ?_
          go_wp2_with fail
          refine ⟨.inl (by first | rfl | trivial), ?_⟩
          refine wpAnyS_done (by decide +kernel) (NoPanic.normal ?_)
          go_wp2
          go_roundw
          case rel => exact ⟨_, HP.out, by rw [HL7.out]; omega, by rw [HL7.out]; omega⟩
          case measure => simp only [sliceN]; omega
        · have hgo' : (e : Int) ≤ (M : Int) := by omega
          go_wp2_with fail
          go_meet
          case rel => exact XT.of hbw4 HX.out
  case rest =>
    obtain ⟨A', n', c', L', rfl, hs', hnc', hcm', hbw'⟩ := hcut
    clear HXK t0 t1 t2 tf y0 y1 y2 yf hgxB hgcB hbel hgne HS1N HDY i0 i1 HSK HOLD HS0N
    go_wp2_with fail
    refine (right_tables A' n' c' L' _ hs' (Nat.le_trans hnc' hcm')).mono ?_
    rintro e w7 ⟨b7, rfl, hb7', hb7⟩
    replace hs' := SegT.below hs' hb7
    go_wp2_with fail
    refine (rright_tables A' n' c' L' _ hs' (Nat.le_trans hnc' hcm')).mono ?_
    rintro e w8 ⟨b8, rfl, hb8', hb8⟩
    have hbb : b7 = b8 := by
      cases b7 <;> cases b8 <;> first | rfl | exact absurd (hb7'.2 (hb8'.1 rfl)) (by decide) | exact absurd (hb8'.2 (hb7'.1 rfl)) (by decide)
    subst hbb
    have hbe : (b7 == b7) = true := by simp
    clear hb7' hb8'
    go_wp2
    go_ret
    exact ⟨by simp, Below.next' (Below.next' hbw' hb7 hbw'.size) hb8 (Below.next' hbw' hb7 hbw'.size).size⟩

end Go.Proofs.Ytcmagjeplofagaa
