/-
  The walk of the law ProofDeep.
-/
import Derived.Test.YtpbjianhkjjgkaaDoorYBL1
namespace Go.Proofs.YtpbjianhkjjgkaaDoor
open Go.RowKit

theorem PfAt.forms {w : World} {v : Value} {p : Pf} (h : PfAt w v p) : ∃ A c B e, v = .agg #[.slice A p.side.length c, .int .u8 (p.k : Int), .string p.key, .slice B p.row.length e] ∧ SegS w A p.side.length p.side ∧ Seg w B p.row.length p.row ∧ p.side.length ≤ c ∧ c ≤ maxLen ∧ p.row.length ≤ e ∧ e ≤ maxLen := by
  obtain ⟨A, c, B, e, rfl, h1, h2, h3, h4, h5, h6⟩ := h
  exact ⟨A, c, B, e, rfl, h1, h2, h3, h4, h5, h6⟩

set_option maxRecDepth 8000 in
set_option maxHeartbeats 32000000 in
theorem proofDeep_core (A : Option Addr) (n c : Nat) (L : List TAct) (k : Nat) (w : World) (ha : SegTA w A n L) (hnc : n ≤ c) (hcm : c ≤ maxLen) (hk : k < 256) (hsm : SmallA 30 L) (ht : Tab w) :
    Calls Tryd.prog 10 #[.slice A n c, .int .u8 (k : Int)] w fun e w' => e = .returned (.bool true) ∧ Below w.heap.size w w' := by
  obtain ⟨q, hq⟩ : ∃ q, k % 26 = q := ⟨_, rfl⟩
  have hm : (k : Int) % 26 = (q : Int) := by omega
  have hm2 : (k : Int).tmod 26 = (q : Int) := by rw [Int.tmod_eq_emod_of_nonneg (by omega)]; omega
  have kc := fun W => run_two W q (by omega)
  obtain ⟨K, hK⟩ : ∃ K : ByteArray, ⟨#[107, UInt8.ofNat q]⟩ = K := ⟨_, rfl⟩
  have hKs : K.size = 2 := by rw [← hK]; rfl
  simp only [hK] at kc
  have hI := madeI_its L
  have hrw := madeI_row hsm
  have HMA := Lib.hid (fun W (h : Below w.heap.size w W) => made10_any A n c L W (ha.below h) hcm hnc hsm.1 (Tab.below ht h))
  have HSM := Lib.hid (fun W (h : Below w.heap.size w W) => small10_any A n c L true W (ha.below h) hcm hnc ⟨fun _ => hsm, fun _ => rfl⟩)
  obtain ⟨m, hmm⟩ : ∃ m, madeI L = m := ⟨_, rfl⟩
  simp only [hmm] at HMA hI hrw
  obtain ⟨T, hT⟩ : ∃ T, sumT K = T := ⟨_, rfl⟩
  have hgm := Good.root hI.1 hI.2
  obtain ⟨d, hd, hs⟩ := stop_ex T hgm
  have hbld : bldP K m d = endP K (sidesI T m d) (curI T m d) := by unfold bldP; rw [hT]
  have HB := Lib.hid (fun (p : Value) (W : World) (h1 : TreeAt W (tree 256 m 0) p) (h2 : Tab W) => pbuild_any m K d p W hI (by omega) (by rw [hT]; exact hs) h1 h2)
  rw [hbld] at HB
  have HTS := Lib.hid (show T.size = 32 by rw [← hT]; exact sumT_size K)
  have HTK := Lib.hid (show (⟨(sha K.data.toList).toArray⟩ : ByteArray) = T from hT)
  have HG := Lib.hid (fun e => curI_good (T := T) hgm e)
  have HS := Lib.hid hs
  have HSL := Lib.hid (sidesI_len T m d)
  have HSA := Lib.hid (fun i h => sidesI_at T m d i h)
  have HRW := Lib.hid (fun x (hx : x ∈ curI T m d) => hrw x (curI_sub d x hx))
  clear hmm hsm hrw hgm hs hI hK hq ha hnc hT hbld
  go_enter Tryd.func10, Tryd.ntmps10
  go_wp2_with fail
  refine (bare_any _ ht).mono ?_
  rintro e w1 ⟨rfl, hb1⟩
  go_wp2_with fail
  refine (HSM.out _ hb1).mono ?_
  rintro e w2 ⟨rfl, rfl⟩
  go_wp2_with fail
  refine (HMA.out _ hb1).mono ?_
  rintro e w3 ⟨p, sv, S, rfl, hp, hso, hsi, hb3⟩
  have hb := Below.next' hb1 hb3 hb1.size
  obtain ⟨pq, rfl⟩ := hp.ptr
  obtain ⟨SA, sc, rfl, _, _, _⟩ := hso.forms
  have hal := (Below.refl w3.heap.size w3).alloc (Nat.le_refl _) (.cells #[.int .u8 107, .int .u8 (q : Int)] 5)
  have HAL := Lib.hid (And.intro (hp.below hal) (Below.next' hb hal hb.size))
  clear hp hso hsi hb hal hb1 hb3 HMA HSM
  go_wp2_with fail
  obtain ⟨hp, hb⟩ := HAL.out
  clear HAL kc
  generalize w3.alloc (.cells #[.int .u8 107, .int .u8 (q : Int)] 5) = w4 at *
  refine (HB.out _ _ hp (Tab.below ht hb)).mono ?_
  rintro e w5 ⟨u5, rfl, hu5, hb5⟩
  have hp := hp.below hb5
  have hb := Below.next' hb hb5 hb.size
  obtain ⟨As, cs, Br, ce, rfl, hss, hsr, h1, h2, h3, h4⟩ := hu5.at_.forms
  rw [show (endP K (sidesI T m d) (curI T m d)).side = sidesI T m d from endP_side _ _ _] at hss h1 ⊢
  obtain ⟨ds, hds⟩ : ∃ ds, sidesI T m d = ds := ⟨_, rfl⟩
  have hsl := HSL.out
  rw [hds] at hss h1 hsl HSA hsr h3 ⊢
  obtain ⟨PF, hPF⟩ : ∃ PF, endP K ds (curI T m d) = PF := ⟨_, rfl⟩
  rw [hPF] at hsr h3 ⊢
  rw [hsl] at hss h1 ⊢
  clear hds hb5 HB HSL hu5
  obtain ⟨rl, hrl⟩ : ∃ rl, PF.row.length = rl := ⟨_, rfl⟩
  rw [hrl] at hsr h3 ⊢
  have hal := (Below.refl w5.heap.size w5).alloc (Nat.le_refl _) (.cells #[.slice As d cs, .int .u8 (PF.k : Int), .string PF.key, .slice Br rl ce] 65)
  have HQ := Lib.hid (And.intro (Bx.new w5 (.slice As d cs) (.int .u8 (PF.k : Int)) (.string PF.key) (.slice Br rl ce) 65) (And.intro (hp.below hal) (And.intro (hss.below hal) (And.intro (hsr.below hal) (Below.next' hb hal hb.size)))))
  have HPF := Lib.hid hPF
  have HRL := Lib.hid hrl
  clear hp hss hsr hb hal hPF hrl
  go_wp2_with fail
  obtain ⟨hq, hp, hss, hsr, hb⟩ := HQ.out
  clear HQ
  generalize w5.alloc (.cells #[.slice As d cs, .int .u8 (PF.k : Int), .string PF.key, .slice Br rl ce] 65) = w6 at *
  obtain ⟨b5, hb5⟩ : ∃ b5, w5.heap.size = b5 := ⟨_, rfl⟩
  rw [hb5] at hq ⊢
  clear hb5
  go_loopw [5, 9, 10, 11, 12] (fun nv i _ _ _ w' => ∃ e : Nat, e ≤ d ∧ i = .int .i64 (e : Int) ∧ TreeAt w' (tree (256 - e) (curI T m e) e) nv ∧ Below w6.heap.size w6 w') (fun _ i _ _ _ _ => d - (intOf i).toNat)
  case atStart => exact ⟨0, by omega, rfl, hp, Below.refl _ _⟩
  case round =>
    clear hp
    obtain ⟨e, he, rfl, hp, hb6⟩ := hrel
    obtain ⟨pq, rfl⟩ := hp.ptr
    have hq := hq.below hb6
    have hss := hss.below hb6
    have hsr := hsr.below hb6
    have hbw := Below.next' hb hb6 hb.size
    have x0 := hq.c0
    have x1 := hq.c1
    have x3 := hq.c3
    clear hq
    rename World => wl
    by_cases hlt : e < d
    · have h2 := HS.out.1 e hlt
      have hf : 256 - e = (255 - e) + 1 := by omega
      rw [hf] at hp
      obtain ⟨a, b, hta, htb, hh⟩ := thalves_at (255 - e) (curI T m e) e _ wl (by omega) (HG.out e) hp h2
      obtain ⟨aq, rfl⟩ := hta.ptr
      obtain ⟨bq, rfl⟩ := htb.ptr
      have HH := Lib.hid (hh _ (Below.refl _ _))
      have HC := Lib.hid (show curI T m (e + 1) = halfI (curI T m e) e (bitF T (e : Int)) from rfl)
      have HSI := Lib.hid (show sideI T m e = ⟨(tree (255 - e) (halfI (curI T m e) e (1 - bitF T (e : Int))) (e + 1)).dig.toArray⟩ from rfl)
      have hf2 : 256 - (e + 1) = 255 - e := by omega
      obtain ⟨gs, os, rfl, y0⟩ := SegS.cellAt hss hlt
      have hde : ds[e]'(by rw [hsl]; exact hlt) = sideI T m e := by
        have h3 := HSA.out e hlt
        rw [List.getElem?_eq_getElem (by rw [hsl]; exact hlt)] at h3
        exact Option.some.inj h3
      rw [hde] at y0
      have hbF := bitF_lt2 T (e : Int)
      have hbit : bitF T (e : Int) = 0 ∨ bitF T (e : Int) = 1 := by omega
      have HTZ := HTS.out
      have kcv := fun W => Lib.run_convert_string_bytes (P := Tryd.prog) W 9 29 5 K Tryd.underlying9 Tryd.underlying29 Tryd.underlying5
      have HBIT := Lib.hid hbit
      clear hh hss hsr hp hf hde x1 x3 hbF hbit
      go_wp2_with fail
      refine HH.out.mono ?_
      rintro e1 w7 ⟨rfl, hb7⟩
      have hta := hta.below hb7
      have htb := htb.below hb7
      have hb6 := Below.next' hb6 hb7 hb6.size
      have hbw := Below.next' hbw hb7 hbw.size
      have x0 := cell_below hb7 x0
      have y0 := cell_below hb7 y0
      clear hb7 HH
      go_wp2_with fail
      have hb8 := bytesBelow w7 5 K
      have hsg := bytesSeg w7 5 K
      rw [hKs] at hsg
      refine (rsum_any _ 2 _ K.data.toList _ hsg (by omega)).mono ?_
      rw [HTK.out]
      rintro e2 w8 ⟨rfl, hb9⟩
      have hb8 := Below.next' hb8 hb9 hb8.size
      have hta := hta.below hb8
      have htb := htb.below hb8
      have hb6 := Below.next' hb6 hb8 hb6.size
      have hbw := Below.next' hbw hb8 hbw.size
      have x0 := cell_below hb8 x0
      have y0 := cell_below hb8 y0
      clear hb8 hb9 kcv hsg
      go_wp2_with fail
      refine (rbit_any T (e : Int) _ (by omega) (by omega) (by omega)).mono ?_
      rcases HBIT.out with hb0 | hb0
      · rw [hb0] at HC HSI ⊢
        clear hb0
        rintro e3 w9 ⟨rfl, rfl⟩
        go_wp2
        rename World => wr
        refine wp_region_noPanic (wp_region_tills (fun W' => W'.cell? ⟨b5, 0, none⟩ = some (.slice (some ⟨gs, os, none⟩) d cs) ∧ W'.cell? ⟨gs, os + e, none⟩ = some (.string (sideI T m e))) (fun j => decide (7 ≤ j)) (by kernel_rfl) ?_)
        have hD := belD wr 1
        have hta := hta.below hD
        have htb := htb.below hD
        have hb6 := Below.next' hb6 hD hb6.size
        have hbw := Below.next' hbw hD hbw.size
        have x0 := cell_below hD x0
        have x1 := cell_below hD y0
        clear y0 hD
        change wpAnyS _ _ _ _ _ _ 8 _ _ (wr.drewN 1)
        generalize wr.drewN 1 = wq at *
        refine wpAnyS_take (i := 0) (v := .pointer bq) rfl (by kernel_rfl) (fun _ _ _ h => h) ⟨x0, x1⟩ (Or.inl ⟨rfl, fun W' hW => by obtain ⟨q0, q1⟩ := hW; go_simp⟩) ?_
        refine wpAnyS_take (i := 2) (v := .pointer (some ⟨b5, 0, none⟩)) rfl (by kernel_rfl) (fun _ _ _ h => h) ⟨x0, x1⟩ (Or.inl ⟨rfl, fun W' hW => by obtain ⟨q0, q1⟩ := hW; go_simp⟩) ?_
        refine wpAnyS_take (i := 3) (v := .slice (some ⟨gs, os, none⟩) d cs) rfl (by kernel_rfl) (fun _ _ _ h => h) ⟨x0, x1⟩ (Or.inl ⟨rfl, fun W' hW => by obtain ⟨q0, q1⟩ := hW; go_simp⟩) ?_
        refine wpAnyS_take (i := 4) (v := .int .i64 (e : Int)) rfl (by kernel_rfl) (fun _ _ _ h => h) ⟨x0, x1⟩ (Or.inl ⟨rfl, fun W' hW => by obtain ⟨q0, q1⟩ := hW; go_simp⟩) ?_
        refine wpAnyS_take (i := 5) (v := .pointer (some ⟨gs, os + e, none⟩)) rfl (by kernel_rfl) (fun _ _ _ h => h) ⟨x0, x1⟩ (Or.inl ⟨rfl, fun W' hW => by obtain ⟨q0, q1⟩ := hW; go_simp⟩) ?_
        refine wpAnyS_take (i := 6) (v := .string (sideI T m e)) rfl (by kernel_rfl) (fun _ _ _ h => h) ⟨x0, x1⟩ (Or.inl ⟨rfl, fun W' hW => by obtain ⟨q0, q1⟩ := hW; go_simp⟩) ?_
        refine wpAnyS_step 1 rfl (by decide +kernel) ?_
        go_wp2_with fail
        refine (tdig_any _ _ _ htb (Tab.below ht hbw)).mono ?_
        rw [show (⟨(tree (255 - e) (halfI (curI T m e) e 1) (e + 1)).dig.toArray⟩ : ByteArray) = sideI T m e from HSI.out.symm]
        rintro e4 w10 ⟨rfl, hb10⟩
        have hta := hta.below hb10
        have hb6 := Below.next' hb6 hb10 hb6.size
        have x0 := cell_below hb10 x0
        have x1 := cell_below hb10 x1
        clear hb10 HSI hbw
        generalize sideI T m e = D at *
        have hdd : (D.toList == D.toList) = true := by simp
        go_wp2_with fail
        refine ⟨.inr ⟨x0, x1⟩, ?_⟩
        refine wpAnyS_step 7 rfl (by decide +kernel) ?_
        go_wp2_with fail
        refine ⟨.inl rfl, ?_⟩
        refine wpAnyS_done (by decide +kernel) (NoPanic.normal ?_)
        go_wp2
        go_roundw
        case rel =>
          refine ⟨e + 1, hlt, by go_num, ?_, hb6⟩
          rw [HC.out, hf2]
          exact hta
        case measure => simp [intOf]; omega
      · rw [hb0] at HC HSI ⊢
        clear hb0
        rintro e3 w9 ⟨rfl, rfl⟩
        go_wp2
        rename World => wr
        refine wp_region_noPanic (wp_region_tills (fun W' => W'.cell? ⟨b5, 0, none⟩ = some (.slice (some ⟨gs, os, none⟩) d cs) ∧ W'.cell? ⟨gs, os + e, none⟩ = some (.string (sideI T m e))) (fun j => decide (7 ≤ j)) (by kernel_rfl) ?_)
        have hD := belD wr 1
        have hta := hta.below hD
        have htb := htb.below hD
        have hb6 := Below.next' hb6 hD hb6.size
        have hbw := Below.next' hbw hD hbw.size
        have x0 := cell_below hD x0
        have x1 := cell_below hD y0
        clear y0 hD
        change wpAnyS _ _ _ _ _ _ 8 _ _ (wr.drewN 1)
        generalize wr.drewN 1 = wq at *
        refine wpAnyS_take (i := 0) (v := .pointer aq) rfl (by kernel_rfl) (fun _ _ _ h => h) ⟨x0, x1⟩ (Or.inl ⟨rfl, fun W' hW => by obtain ⟨q0, q1⟩ := hW; go_simp⟩) ?_
        refine wpAnyS_take (i := 2) (v := .pointer (some ⟨b5, 0, none⟩)) rfl (by kernel_rfl) (fun _ _ _ h => h) ⟨x0, x1⟩ (Or.inl ⟨rfl, fun W' hW => by obtain ⟨q0, q1⟩ := hW; go_simp⟩) ?_
        refine wpAnyS_take (i := 3) (v := .slice (some ⟨gs, os, none⟩) d cs) rfl (by kernel_rfl) (fun _ _ _ h => h) ⟨x0, x1⟩ (Or.inl ⟨rfl, fun W' hW => by obtain ⟨q0, q1⟩ := hW; go_simp⟩) ?_
        refine wpAnyS_take (i := 4) (v := .int .i64 (e : Int)) rfl (by kernel_rfl) (fun _ _ _ h => h) ⟨x0, x1⟩ (Or.inl ⟨rfl, fun W' hW => by obtain ⟨q0, q1⟩ := hW; go_simp⟩) ?_
        refine wpAnyS_take (i := 5) (v := .pointer (some ⟨gs, os + e, none⟩)) rfl (by kernel_rfl) (fun _ _ _ h => h) ⟨x0, x1⟩ (Or.inl ⟨rfl, fun W' hW => by obtain ⟨q0, q1⟩ := hW; go_simp⟩) ?_
        refine wpAnyS_take (i := 6) (v := .string (sideI T m e)) rfl (by kernel_rfl) (fun _ _ _ h => h) ⟨x0, x1⟩ (Or.inl ⟨rfl, fun W' hW => by obtain ⟨q0, q1⟩ := hW; go_simp⟩) ?_
        refine wpAnyS_step 1 rfl (by decide +kernel) ?_
        go_wp2_with fail
        refine (tdig_any _ _ _ hta (Tab.below ht hbw)).mono ?_
        rw [show (⟨(tree (255 - e) (halfI (curI T m e) e 0) (e + 1)).dig.toArray⟩ : ByteArray) = sideI T m e from HSI.out.symm]
        rintro e4 w10 ⟨rfl, hb10⟩
        have hta := htb.below hb10
        have hb6 := Below.next' hb6 hb10 hb6.size
        have x0 := cell_below hb10 x0
        have x1 := cell_below hb10 x1
        clear hb10 HSI hbw
        generalize sideI T m e = D at *
        have hdd : (D.toList == D.toList) = true := by simp
        go_wp2_with fail
        refine ⟨.inr ⟨x0, x1⟩, ?_⟩
        refine wpAnyS_step 7 rfl (by decide +kernel) ?_
        go_wp2_with fail
        refine ⟨.inl rfl, ?_⟩
        refine wpAnyS_done (by decide +kernel) (NoPanic.normal ?_)
        go_wp2
        go_roundw
        case rel =>
          refine ⟨e + 1, hlt, by go_num, ?_, hb6⟩
          rw [HC.out, hf2]
          exact hta
        case measure => simp [intOf]; omega
    · obtain rfl : e = d := by omega
      have hne : decide ((e : Int) < (e : Int)) = false := by simp
      have hsmall := thalves_small (256 - e) (curI T m e) e _ wl (by omega) (HG.out e) hp HS.out.2
      have HSM := Lib.hid hsmall
      have h1 := HS.out.2
      clear hsmall hss HSA
      obtain ⟨r, hr⟩ : ∃ r, curI T m e = r := ⟨_, rfl⟩
      rw [hr] at HPF hp h1 HRW
      clear hr
      have hsr0 := hsr
      rcases r with _ | ⟨x, _ | ⟨y, r⟩⟩
      · obtain rfl : PF = ⟨ds, 0, ⟨#[]⟩, []⟩ := HPF.out.symm
        obtain rfl : rl = 0 := HRL.out.symm
        rw [tree_nil] at hp
        have e1 : Value.pointer pq = .pointer none := hp
        injection e1 with e1
        subst e1
        dsimp only at x1
        go_wp2_with fail
        refine HSM.out.mono ?_
        rintro e1 w7 ⟨rfl, rfl⟩
        go_wp2_with fail
        refine (leaf_nil _).mono ?_
        rintro e2 w8 ⟨rfl, rfl⟩
        go_wp2_with fail
        refine (bytes_any Br none 0 0 ce 0 [] [] _ hsr (Seg.nil _ _) (by simp [maxLen])).mono ?_
        rintro e3 w9 ⟨rfl, u, rfl⟩
        rw [show (([] : List UInt8) == []) = true from rfl]
        go_wp2
        go_ret
        exact ⟨rfl, Below.drewN' hbw u⟩
      · rw [tree_one] at hp
        have hxr := HRW.out x (List.mem_cons_self ..)
        obtain ⟨xu, xl⟩ := x
        have HP := Lib.hid hp
        have hke : PF = if keyOf xu = K then ⟨ds, 1, ⟨#[]⟩, xl⟩ else ⟨ds, 2, keyOf xu, xl⟩ := HPF.out.symm
        obtain ⟨KU, hKU⟩ : ∃ KU, keyOf xu = KU := ⟨_, rfl⟩
        have hlf := tleaf_any xu xl _ wl hp
        rw [hKU] at hke hlf
        have HLF := Lib.hid hlf
        dsimp only at hxr
        clear hKU hlf hp HPF
        by_cases hkk : KU = K
        · have hqk : (KU.toList == K.toList) = true := by rw [hkk]; simp
          rw [if_pos hkk] at hke
          subst hke
          obtain rfl : xl.length = rl := HRL.out
          clear hkk
          dsimp only at x1 hsr
          go_wp2_with fail
          refine HSM.out.mono ?_
          rintro e1 w7 ⟨rfl, rfl⟩
          go_wp2_with fail
          refine HLF.out.mono ?_
          rintro e2 w8 ⟨rv, rfl, hro, hb8⟩
          obtain ⟨Ar, cr, rfl, hsq, _, _⟩ := hro.forms
          have hsr := hsr.below hb8
          have x0 := cell_below hb8 x0
          have x1 := cell_below hb8 x1
          have x3 := cell_below hb8 x3
          have hbw := Below.next' hbw hb8 hbw.size
          clear hb8 hro
          obtain ⟨rl, hrl⟩ : ∃ rl, xl.length = rl := ⟨_, rfl⟩
          rw [hrl] at hsq hsr x3 hxr ⊢
          clear hrl HRL
          go_wp2_with fail
          refine (bytes_any Br Ar rl rl ce cr xl xl _ hsr hsq (by simp only [maxLen]; omega)).mono ?_
          rintro e3 w9 ⟨rfl, u, rfl⟩
          rw [show (xl == xl) = true by simp]
          go_wp2
          go_ret
          exact ⟨rfl, Below.drewN' hbw u⟩
        · have hqk : (KU.toList == K.toList) = false := by
            rw [beq_eq_false_iff_ne, ne_eq, toList_inj]
            exact hkk
          rw [if_neg hkk] at hke
          subst hke
          obtain rfl : xl.length = rl := HRL.out
          clear hkk
          dsimp only at x1 hsr
          go_wp2_with fail
          refine HSM.out.mono ?_
          rintro e1 w7 ⟨rfl, rfl⟩
          go_wp2_with fail
          refine HLF.out.mono ?_
          rintro e2 w8 ⟨rv, rfl, hro, hb8⟩
          obtain ⟨Ar, cr, rfl, hsq, _, _⟩ := hro.forms
          have hsr := hsr.below hb8
          have x0 := cell_below hb8 x0
          have x1 := cell_below hb8 x1
          have x3 := cell_below hb8 x3
          have hbw := Below.next' hbw hb8 hbw.size
          clear hb8 hro
          obtain ⟨rl, hrl⟩ : ∃ rl, xl.length = rl := ⟨_, rfl⟩
          rw [hrl] at hsq hsr x3 hxr ⊢
          clear hrl HRL
          go_wp2_with fail
          refine (bytes_any Br Ar rl rl ce cr xl xl _ hsr hsq (by simp only [maxLen]; omega)).mono ?_
          rintro e3 w9 ⟨rfl, u, rfl⟩
          rw [show (xl == xl) = true by simp]
          go_wp2
          go_ret
          exact ⟨rfl, Below.drewN' hbw u⟩
      · simp at h1

set_option maxRecDepth 8000 in
set_option maxHeartbeats 4000000 in
theorem proofDeep_long (A : Option Addr) (n c : Nat) (L : List TAct) (k : Nat) (w : World) (ha : SegTA w A n L) (hnc : n ≤ c) (hcm : c ≤ maxLen) (hs : ¬ SmallA 30 L) (ht : Tab w) :
    Calls Tryd.prog 10 #[.slice A n c, .int .u8 (k : Int)] w fun e w' => e = .returned (.bool true) ∧ Below w.heap.size w w' := by
  have HSM := Lib.hid (fun W (h : Below w.heap.size w W) => small10_any A n c L false W (ha.below h) hcm hnc ⟨fun h => Bool.noConfusion h, fun h => absurd h hs⟩)
  clear ha hs
  go_enter Tryd.func10, Tryd.ntmps10
  go_wp2_with fail
  refine (bare_any _ ht).mono ?_
  rintro e w1 ⟨rfl, hb1⟩
  go_wp2_with fail
  refine (HSM.out _ hb1).mono ?_
  rintro e w2 ⟨rfl, rfl⟩
  go_wp2_with fail
  refine (bare_any _ (Tab.below ht hb1)).mono ?_
  rintro e w3 ⟨rfl, hb3⟩
  go_wp2
  go_ret
  exact ⟨rfl, Below.next' hb1 hb3 hb1.size⟩

theorem proofDeep_walk (A : Option Addr) (n c : Nat) (L : List TAct) (y : Int) (w : World) (ha : SegTA w A n L) (hnc : n ≤ c) (hcm : c ≤ maxLen) (hy : (Lit.int .u8 y).wf = true) (ht : Tab w) :
    Calls Tryd.prog 10 #[.slice A n c, .int .u8 y] w fun e w' => e = .returned (.bool true) ∧ Below w.heap.size w w' := by
  have hb := bounds_u8 hy
  obtain ⟨k, rfl⟩ := Int.eq_ofNat_of_zero_le (show 0 ≤ y by omega)
  by_cases h : SmallA 30 L
  · exact proofDeep_core A n c L k w ha hnc hcm (by omega) h ht
  · exact proofDeep_long A n c L k w ha hnc hcm h ht

end Go.Proofs.YtpbjianhkjjgkaaDoor
