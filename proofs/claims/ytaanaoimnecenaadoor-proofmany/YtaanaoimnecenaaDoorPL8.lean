/-
  The walk of the law ProofMany.
-/
import Derived.Test.YtaanaoimnecenaaDoorPL6
import Derived.Test.YtaanaoimnecenaaDoorOpen
namespace Go.Proofs.YtaanaoimnecenaaDoor
open Go.RowKit Go.ChangeShapes Go.WideShapes

def z32 : ByteArray := ⟨(List.replicate 32 (0 : UInt8)).toArray⟩
def manyP (N K : Nat) : Pf := ⟨List.replicate N z32, 1, ⟨#[]⟩, List.replicate K 0⟩
theorem many_dec (N K : Nat) (hN : N < 270) (hK : K < 4100) : (pdec (penc (manyP N K))).2 = if N ≤ 256 ∧ K ≤ 4000 then 0 else 2 := by
  by_cases h : N ≤ 256 ∧ K ≤ 4000
  · rw [if_pos h, pdec_penc (manyP N K) (by show (List.replicate N z32).length ≤ 256; rw [List.length_replicate]; exact h.1) (fun s hs => by
      have hs : s ∈ List.replicate N z32 := hs
      rw [(List.mem_replicate.1 hs).2]
      rfl) (by show 1 ≤ 2; omega) (Nat.zero_le _) (by show (List.replicate K (0 : UInt8)).length ≤ 4000; rw [List.length_replicate]; exact h.2) (fun _ => rfl) (fun h => absurd h (by show ¬ 1 = 0; omega))]
  · rw [if_neg h]
    have hlen : (high (List.replicate N z32).length 2 ++ cat (List.replicate N z32) ++ [UInt8.ofNat 1] ++ ptext (List.replicate K 0)) = penc (manyP N K) := rfl
    by_cases h1 : N ≤ 256
    · have hK2 : 4000 < K := by omega
      have hs : ∀ X, psides (high (List.replicate N z32).length 2 ++ cat (List.replicate N z32) ++ X, 0) = (List.replicate N z32, (X, 0)) := by
        intro X
        unfold psides
        rw [List.append_assoc, pnb_read _ _ _ _ (by rw [List.length_replicate]; omega) (by rw [List.length_replicate]; exact h1)]
        dsimp only
        rw [psd_read _ _ (fun s hs => by rw [(List.mem_replicate.1 hs).2]; rfl) _ (Nat.le_refl _)]
        simp [cat]
      rw [← hlen, List.append_assoc, show [UInt8.ofNat 1] ++ ptext (List.replicate K (0 : UInt8)) = (1 : UInt8) :: ptext (List.replicate K 0) from rfl]
      refine congrArg Prod.snd (pdec_err (x := 2) ?_ (by omega))
      rw [ppf_of (b := 1) (hs _) (by decide)]
      have e1 : (1 : UInt8).toNat = 1 := rfl
      rw [e1, if_neg (by omega), if_pos rfl]
      have hb : pnb (ptext (List.replicate K (0 : UInt8)), 0) 2 4000 = (0, (List.replicate K 0, 2)) := by
        unfold ptext
        have hl := high_length (List.replicate K (0 : UInt8)).length 2
        rw [pnb_big (by rw [List.length_append]; omega) (by rw [take_cut hl, rdN_high, List.length_replicate, Nat.mod_eq_of_lt (by omega)]; exact hK2), drop_cut hl]
      show (ptx (ptext (List.replicate K 0), 0)).2.2 = 2
      unfold ptx
      rw [hb, ptk_err (by simp)]
    · refine congrArg Prod.snd (pdec_count (l := penc (manyP N K)) ?_ ?_)
      · rw [← hlen]
        simp only [List.length_append, high_length]
        omega
      · rw [← hlen, List.append_assoc, List.append_assoc, take_cut (high_length _ _), rdN_high, List.length_replicate, Nat.mod_eq_of_lt (by omega)]
        omega

set_option maxRecDepth 4000 in
set_option maxHeartbeats 16000000 in
theorem proofMany_core (nv kv : Int) (N K : Nat) (w : World) (hn0 : 0 ≤ nv) (_ : nv ≤ 65535) (hk0 : 0 ≤ kv) (_ : kv ≤ 65535) (hN : nv % 270 = (N : Int)) (hK : kv % 4100 = (K : Int)) (ht : Tab w) :
    Calls Tryd.prog 12 #[.int .u16 nv, .int .u16 kv] w fun e w' => e = .returned (.bool true) ∧ Below w.heap.size w w' := by
  have hNl : N < 270 := by omega
  have hKl : K < 4100 := by omega
  have hNt : nv.tmod 270 = (N : Int) := by rw [Int.tmod_eq_emod_of_nonneg hn0]; exact hN
  have hKt : kv.tmod 4100 = (K : Int) := by rw [Int.tmod_eq_emod_of_nonneg hk0]; exact hK
  have w1 : IntKind.u16.wrap (N : Int) = (N : Int) := by rw [IntKind.wrap_u16]; omega
  have w2 : IntKind.u16.wrap (K : Int) = (K : Int) := by rw [IntKind.wrap_u16]; omega
  have w3 : IntKind.i64.wrap (N : Int) = (N : Int) := IntWalk.i64_in _ (by omega)
  have w4 : IntKind.i64.wrap (K : Int) = (K : Int) := IntWalk.i64_in _ (by omega)
  go_enter Tryd.func12, Tryd.ntmps12
  go_wp2_with fail
  refine (bare_any _ ht).mono ?_
  rintro e wa ⟨rfl, hba⟩
  go_wp2_with (at_make
               refine wpList_make_bytes _ rfl (.tmp 14) (.tmp 14) _ _ bt rfl wa.heap.size .i64 .i64 (K : Int) (K : Int) K (by go_simp) (by go_simp) rfl rfl (by omega) (Nat.le_refl _) ?_
               intro wb hob hgb)
  have hbb := hba.grown hgb hba.size (by intro k hk; cases hk)
  have hrow : Seg wb (some ⟨wa.heap.size, 0, none⟩) K (List.replicate K 0) := by
    obtain ⟨A', c', hv, hs, _, _⟩ := hob.forms
    rw [List.length_replicate] at hv hs
    injection hv with e1
    rw [e1]
    exact hs
  have hzb := hgb.size
  clear hob hgb hba
  obtain ⟨b0, hb0⟩ : ∃ b0, wa.heap.size = b0 := ⟨_, rfl⟩
  have hbox := Bx.new wb (.slice none 0 0) (.int .u8 1) (.string ⟨#[]⟩) (.slice (some ⟨b0, 0, none⟩) K K) 67
  have hal := (Below.refl wb.heap.size wb).alloc (Nat.le_refl _) (.cells #[.slice none 0 0, .int .u8 1, .string ⟨#[]⟩, .slice (some ⟨b0, 0, none⟩) K K] 67)
  have hzc : (wb.alloc (.cells #[.slice none 0 0, .int .u8 1, .string ⟨#[]⟩, .slice (some ⟨b0, 0, none⟩) K K] 67)).heap.size = wb.heap.size + 1 := by simp
  rw [hb0] at hrow ⊢
  have HROWB := Lib.hid hrow
  clear hb0 hzb
  have hrow := hrow.below hal
  have hbc := Below.next' hbb hal hbb.size
  have hrlt : 0 < K → b0 < wb.heap.size + 1 := fun hp => by
    have := hrow.lt hp _ rfl
    rw [hzc] at this
    exact this
  have hb0b : b0 < wb.heap.size ∨ K = 0 := by
    by_cases hk : K = 0
    · exact .inr hk
    · refine .inl ?_
      have := (HROWB.out).lt (by omega) _ rfl
      exact this
  have hb1w : w.heap.size ≤ wb.heap.size := hbb.size
  clear hal hbb hrlt
  generalize wb.alloc (.cells #[.slice none 0 0, .int .u8 1, .string ⟨#[]⟩, .slice (some ⟨b0, 0, none⟩) K K] 67) = wc at *
  generalize wb.heap.size = b1 at *
  go_loopw [6] (fun i w' => ∃ (j : Nat) (v : Value), j ≤ N ∧ i = .int .i64 j ∧ Bx w' b1 v (.int .u8 1) (.string ⟨#[]⟩) (.slice (some ⟨b0, 0, none⟩) K K) ∧ OwnS w' (b1 + 1) 9 v (List.replicate j z32) ∧ Only wc w' (fun k => k = b1)) (fun i _ => N - (intOf i).toNat)
  case atStart => exact ⟨0, _, by omega, rfl, hbox, OwnG.nil _ _ _, Only.refl _ _⟩
  case round =>
    clear hbox
    obtain ⟨j, v, hj, rfl, hq, hov, hoo⟩ := hrel
    obtain ⟨Av, cv, hve, _, _, _⟩ := hov.forms
    rw [List.length_replicate] at hve
    subst hve
    have hzz := hoo.size
    rename World => wl
    by_cases hlt : j < N
    · have d5 : decide ((j : Int) < (N : Int)) = true := decide_eq_true (by omega)
      go_wp2
      refine wp_region_noPanic (wp_region_till (fun W' => W'.cell? ⟨b1, 0, none⟩ = some (.slice Av j cv)) 7 (by kernel_rfl) ?_)
      have hD := belD wl 1
      have hq := hq.below hD
      have hov := hov.drewN 1
      have hoo := hoo.drewN 1
      have x0 := hq.c0
      have hzz1 : b1 + 1 ≤ (wl.drewN 1).heap.size := by show b1 + 1 ≤ wl.heap.size; omega
      change wpAnyT _ _ _ _ _ _ 8 _ _ (wl.drewN 1)
      clear hzz hD
      generalize wl.drewN 1 = w5 at *
      refine wpAnyT_take (i := 0) (v := .pointer (some ⟨b1, 0, none⟩)) rfl (by kernel_rfl) (fun _ _ _ h => h) x0 (Or.inl ⟨rfl, fun W' hW => by have q0 : W'.cell? ⟨b1, 0, none⟩ = _ := hW; go_simp⟩) ?_
      refine wpAnyT_take (i := 1) (v := .slice Av j cv) rfl (by kernel_rfl) (fun _ _ _ h => h) x0 (Or.inl ⟨rfl, fun W' hW => by have q0 : W'.cell? ⟨b1, 0, none⟩ = _ := hW; go_simp⟩) ?_
      refine wpAnyT_step 2 rfl (by decide +kernel) ?_
      refine wpList_make_bytes _ rfl (.const (.int .i64 32)) (.const (.int .i64 32)) _ _ bt rfl w5.heap.size .i64 .i64 32 32 32 rfl rfl rfl rfl (by omega) (Nat.le_refl _) ?_
      intro w6 ho6 hg6
      have h6 : Below w5.heap.size w5 w6 := (Below.refl _ _).grown hg6 (Nat.le_refl _) (by intro k hk; cases hk)
      have hs6 : Seg w6 (some ⟨w5.heap.size, 0, none⟩) 32 (List.replicate 32 0) := by
        obtain ⟨A', c', hv, hs, _, _⟩ := ho6.forms
        rw [List.length_replicate] at hv hs
        injection hv with e1
        rw [e1]
        exact hs
      have hq := hq.below h6
      have hov := hov.below h6
      have hoo := hoo.trans (Only.of_below (S := fun _ => False) h6) (fun _ _ h => h.elim)
      have x0 := hq.c0
      have hz6 := h6.size
      have kc := run_string_seg (P := Tryd.prog) w6 29 9 5 bt Tryd.underlying9 _ 32 32 _ hs6
      rw [show (⟨(List.replicate 32 (0 : UInt8)).toArray⟩ : ByteArray) = z32 from rfl] at kc
      generalize hz32 : z32 = Z32 at *
      clear ho6 hg6 h6 hs6
      generalize w5.heap.size = g5 at *
      go_wp2_with fail
      refine ⟨.inr x0, ?_⟩
      refine wpAnyT_step 3 rfl (by decide +kernel) ?_
      go_wp2_with fail
      refine ⟨.inr x0, ?_⟩
      clear kc
      refine wpAnyT_step 4 rfl (by decide +kernel) ?_
      go_wp2_with fail
      have hal := Only.alloc_ w6 (.cells #[.string Z32] 9) (fun _ => False)
      refine ⟨.inr (hal.cell x0 id), ?_⟩
      have hov6 := hov.only hal (fun _ _ => id)
      refine wpAnyT_step 5 rfl (by decide +kernel) ?_
      refine wpList_append_G _ rfl (.tmp 25) (.tmp 28) _ _ _ _ strT rfl (b1 + 1) (.slice Av j cv) (List.replicate j Z32) rfl hov6 _ 1 1 [Z32] rfl (SegG.newAt _ _ _ _ _ _ rfl rfl rfl) (by rw [List.length_replicate]; omega) (by simp; omega) ?_
      intro v7 w7 hv7 hg7 hat7
      have hon : Only w6 w7 (fun k => b1 + 1 ≤ k) := (hal.mono (fun _ _ h => h.elim)).trans (Only.of_grown (S := fun k => b1 + 1 ≤ k) hg7 (fun k hk => (hov6.lt k hk).1)) (fun _ _ h => h)
      have hq := hq.only hon (by omega)
      have x0 := hq.c0
      have xf := hq.fr 0
      have hoo7 := hoo.trans hon (fun i hi h => by omega)
      clear hg7 hat7 hov6 hov hon hal hoo
      obtain ⟨A7, c7, hve, _, _, _⟩ := hv7.forms
      have hd7 : (List.replicate j Z32 ++ [Z32]).length = j + 1 := by rw [List.length_append, List.length_replicate]; rfl
      rw [hd7] at hve
      subst hve
      go_wp2_with fail
      refine ⟨.inr x0, ?_⟩
      refine wpAnyT_step 6 rfl (by decide +kernel) ?_
      go_wp2_with fail
      refine ⟨.inr x0, ?_⟩
      refine wpAnyT_step 7 rfl (by decide +kernel) ?_
      go_wp2_with fail
      refine ⟨.inl trivial, ?_⟩
      refine wpAnyT_done (by decide +kernel) (NoPanic.normal ?_)
      go_wp2
      go_roundw
      case rel =>
        have hs1 := only_setB w7 ⟨b1, 0, none⟩ (.slice A7 (j + 1) c7)
        refine ⟨j + 1, _, by omega, by go_num, hq.set0 _, ?_, hoo7.trans hs1 (fun _ _ h => h)⟩
        rw [← hz32] at hv7
        rw [List.replicate_succ']
        refine hv7.only hs1 ?_
        intro k hk (e : k = b1)
        have := (hv7.lt k hk).1
        omega
      case measure => simp [intOf]; omega
    · have d5 : decide ((j : Int) < (N : Int)) = false := decide_eq_false (by omega)
      obtain rfl : N = j := by omega
      have hbw : Below w.heap.size w wl := hoo.below hbc (fun k e => by omega) (by omega)
      have hrw : Seg wl (some ⟨b0, 0, none⟩) K (List.replicate K 0) := hrow.only hoo (fun hp a ha e => by
        injection ha with ha
        subst ha
        have e : b0 = b1 := e
        omega)
      have hsg := ownS_at hov (List.length_replicate ..)
      have hat : PfAt wl (.agg #[.slice Av N cv, .int .u8 1, .string ⟨#[]⟩, .slice (some ⟨b0, 0, none⟩) K K]) (manyP N K) := pfat_of (k := 1) hsg.1 hrw (List.length_replicate ..) (List.length_replicate ..) hsg.2.1 hsg.2.2 (Nat.le_refl _) (by simp only [maxLen]; omega)
      have hen := rpencode_any _ (manyP N K) wl hat (by show (List.replicate N z32).length ≤ 300; rw [List.length_replicate]; omega) (fun s hs => by
        have hs : s ∈ List.replicate N z32 := hs
        rw [(List.mem_replicate.1 hs).2]
        show 32 ≤ 10000
        omega) (Nat.zero_le _) (by show (List.replicate K (0 : UInt8)).length ≤ 10000; rw [List.length_replicate]; omega) (by show 1 < 256; omega)
      have hel := penc_len (manyP N K) (by show (List.replicate N z32).length ≤ 300; rw [List.length_replicate]; omega) (fun s hs => by
        have hs : s ∈ List.replicate N z32 := hs
        rw [(List.mem_replicate.1 hs).2]
        show 32 ≤ 32
        omega) (Nat.zero_le _) (by show (List.replicate K (0 : UInt8)).length ≤ 5000; rw [List.length_replicate]; omega)
      have hmd := many_dec N K hNl hKl
      generalize penc (manyP N K) = E at *
      have HEN := Lib.hid hen
      have HEL := Lib.hid hel
      have HMD := Lib.hid hmd
      have HBW := Lib.hid hbw
      clear hen hel hmd hbw hov hsg hat hrw hrow hbc hoo
      obtain ⟨y0, y1, y2, y3, yf⟩ := hq
      clear yf
      go_wp2_with fail
      refine HEN.out.mono ?_
      rintro e we ⟨ve, rfl, hoe, hbe⟩
      obtain ⟨A2, c2, rfl, hs2, hc2, hm2⟩ := hoe.forms
      have hbwe := Below.next' HBW.out hbe HBW.out.size
      clear y0 y1 y2 y3 hoe HEN HBW hbe
      have hdd := pdecode_any A2 _ c2 E _ hs2 hc2 hm2 (by have := HEL.out; omega) hs2.lt
      obtain ⟨x, hx⟩ : ∃ x, (pdec E).2 = x := ⟨_, rfl⟩
      rw [hx] at hdd
      have HXM := Lib.hid (hx.symm.trans HMD.out)
      have HDD := Lib.hid hdd
      have HS2 := Lib.hid hs2
      have HBW := Lib.hid hbwe
      clear hdd hx hs2 hbwe HMD
      go_wp2_with fail
      refine HDD.out.mono ?_
      rintro e wd ⟨u, rfl, hu, hbd⟩
      obtain ⟨A3, c3, B3, d3, rfl, _, _, _, _, _, _⟩ := hu.at_
      generalize (pdec E).1 = p at *
      have hal := (Below.refl wd.heap.size wd).alloc (Nat.le_refl _) (.cells #[.slice A3 p.side.length c3, .int .u8 (p.k : Int), .string p.key, .slice B3 p.row.length d3] 65)
      have hbwd := Below.next' (Below.next' HBW.out hbd HBW.out.size) hal (Below.next' HBW.out hbd HBW.out.size).size
      have hsd := (HS2.out.below hbd).below hal
      have HD := Lib.hid (And.intro hbwd hsd)
      clear hal hbwd hsd hbd hu HDD HS2 HBW
      go_wp2_with fail
      obtain ⟨hbwd, hsd⟩ := HD.out
      refine (reads_any A2 _ c2 E _ hsd hc2 hm2 (by have := HEL.out; omega)).mono ?_
      rintro e wr ⟨rfl, hbr⟩
      have hbwr := Below.next' hbwd hbr hbwd.size
      clear hbwd hsd hbr HD
      by_cases h1 : N ≤ 256
      · have d1 : decide ((N : Int) ≤ 256) = true := decide_eq_true (by omega)
        by_cases h2 : K ≤ 4000
        · have d2 : decide ((K : Int) ≤ 4000) = true := decide_eq_true (by omega)
          obtain rfl : x = 0 := by rw [HXM.out, if_pos ⟨h1, h2⟩]
          go_wp2
          go_ret
          exact ⟨rfl, hbwr⟩
        · have d2 : decide ((K : Int) ≤ 4000) = false := decide_eq_false (by omega)
          obtain rfl : x = 2 := by rw [HXM.out, if_neg (fun h => h2 h.2)]
          go_wp2
          go_ret
          exact ⟨rfl, hbwr⟩
      · have d1 : decide ((N : Int) ≤ 256) = false := decide_eq_false (by omega)
        obtain rfl : x = 2 := by rw [HXM.out, if_neg (fun h => h1 h.1)]
        go_wp2
        go_ret
        exact ⟨rfl, hbwr⟩

theorem proofMany_walk (n k : Int) (w : World) (hn : (Lit.int .u16 n).wf = true) (hk : (Lit.int .u16 k).wf = true) (ht : Tab w) :
    Calls Tryd.prog 12 #[.int .u16 n, .int .u16 k] w fun e w' => e = .returned (.bool true) ∧ Below w.heap.size w w' := by
  have hn0 := (bounds_u16 hn).1
  have hn1 := (bounds_u16 hn).2
  have hk0 := (bounds_u16 hk).1
  have hk1 := (bounds_u16 hk).2
  exact proofMany_core n k (n % 270).toNat (k % 4100).toNat w hn0 hn1 hk0 hk1 (by omega) (by omega) ht

end Go.Proofs.YtaanaoimnecenaaDoor
