/-
  The walk of the document's Scan.
-/
import Derived.Test.YtkmcnkonkalfkaaDoorWW4
import Derived.Test.YtkmcnkonkalfkaaDoorQS
namespace Go.Proofs.YtkmcnkonkalfkaaDoor
open Go.RowKit

theorem addr_addW (b off j : Nat) : (⟨b, off, none⟩ : Addr).add j = ⟨b, off + j, none⟩ := by
  unfold Addr.add
  split
  · subst j; rfl
  · rfl
theorem Seg.cutA {w : World} {g o n : Nat} {l : List UInt8} (h : Seg w (some ⟨g, o, none⟩) n l) (k m : Nat) (hm : k + m ≤ n) : Seg w (some ⟨g, o + k, none⟩) m ((l.drop k).take m) := by
  have := h.cut k (k + m) (by omega) hm
  rw [show k + m - k = m by omega] at this
  simpa [addr_addW] using this

set_option maxHeartbeats 8000000 in
theorem rscan_any (A : Option Addr) (n c : Nat) (l : List UInt8) (w : World) (ha : Seg w A n l) (hn : n ≤ 800000) (hc : n ≤ c) (hcm : c ≤ maxLen) :
    Calls Tryd.prog 14 #[.slice A n c] w fun e w' => ∃ v, e = .returned (.tuple #[v, .int .i64 (sizeL (scanL l) : Int)]) ∧ OwnL w' w.heap.size v (scanL l) ∧ Below w.heap.size w w' := by
  have HLN := Lib.hid ha.1
  have HC := Lib.hid hcm
  simp only [maxLen] at hcm
  go_enter Tryd.func14, Tryd.ntmps14
  go_wp2_with fail
  go_loopw [4, 5, 6, 7] (fun f z _ _ w' => ∃ (L : List (List UInt8)) (m : Nat), z = .int .i64 m ∧ OwnL w' w.heap.size f L ∧ scanL l = L ++ scanL (l.drop m) ∧ sizeL L = m ∧ m ≤ n ∧ Below w.heap.size w w') (fun _ z _ _ _ => n - (intOf z).toNat)
  case atStart => exact ⟨[], 0, rfl, OwnL.nil _ _, by simp, rfl, by omega, Below.refl _ _⟩
  case round =>
    obtain ⟨L, m, rfl, ho, hsc, hsz, hm, hbw⟩ := hrel
    rename World => W
    have HSC := Lib.hid hsc
    have HSZ := Lib.hid hsz
    have HDL := Lib.hid (show (l.drop m).length = n - m by rw [List.length_drop, HLN.out])
    have HEND := Lib.hid (show firstL (l.drop m) = none → scanL l = L from fun h => by rw [HSC.out, scanL_none h, List.append_nil])
    clear hsc hsz
    by_cases h8 : 8 ≤ n - m
    · have hd0 : decide ((8 : Int) ≤ (n : Int) - (m : Int)) = true := decide_eq_true (by omega)
      have hs := ha.below hbw
      obtain ⟨R4, hR4⟩ : ∃ R4, (if c = m then A else Option.map (fun x => x.add m) A) = R4 := ⟨_, rfl⟩
      have hcm4 : ¬ c = m := by omega
      have hR5 : Option.map (fun x => x.add m) A = R4 := by rw [← hR4, if_neg hcm4]
      have hsm : Seg W R4 (n - m) (l.drop m) := by
        have := hs.fromA m c hm hc
        rw [hR4] at this
        exact this
      have hs4 := hsm.upto 4 (by omega)
      have e4 : m + 4 - m = 4 := by omega
      go_wp2_with fail
      refine (read_any _ 4 _ ((l.drop m).take 4) _ hs4 (by omega)).mono ?_
      rintro e w1 ⟨rfl, rfl⟩
      obtain ⟨N, hN⟩ : ∃ N, rdN ((l.drop m).take 4) = N := ⟨_, rfl⟩
      have HNB := Lib.hid (show N < 256 ^ 4 by rw [← hN]; exact rdN_lt' _ 4 (by rw [List.length_take]; omega))
      have HN := Lib.hid hN
      have hwr : IntKind.i64.wrap (N : Int) = (N : Int) := IntWalk.i64_in _ (by have := HNB.out; rw [show (256 : Nat) ^ 4 = 4294967296 from by decide] at this; omega)
      rw [hN]
      clear hN hs4
      by_cases h1 : 1048576 < N
      · have d1 : decide ((1048576 : Int) < (N : Int)) = true := decide_eq_true (by omega)
        go_wp2
        go_ret2
        rw [HEND.out (firstL_long (.inl (by rw [HN.out]; exact h1))), HSZ.out]
        exact ⟨_, rfl, ho, hbw⟩
      · have d1 : decide ((1048576 : Int) < (N : Int)) = false := decide_eq_false (by omega)
        by_cases h2 : n - m - 8 < N
        · have d2 : decide ((n : Int) - (m : Int) - 8 < (N : Int)) = true := decide_eq_true (by omega)
          go_wp2
          go_ret2
          rw [HEND.out (firstL_long (.inr (by rw [HN.out, HDL.out]; exact h2))), HSZ.out]
          exact ⟨_, rfl, ho, hbw⟩
        · have d2 : decide ((n : Int) - (m : Int) - 8 < (N : Int)) = false := decide_eq_false (by omega)
          obtain ⟨q, hq⟩ : ∃ q, ((l.drop m).drop 8).take N = q := ⟨_, rfl⟩
          have hsqA : c = m + 8 → Seg W A N q := fun h => by
            have := (hs.fromA (m + 8) c (by omega) hc).upto N (by omega)
            rw [if_pos h, ← List.drop_drop, hq] at this
            exact this
          have hsqR : ¬ c = m + 8 → Seg W (Option.map (fun x => x.add (m + 8)) A) N q := fun h => by
            have := (hs.fromA (m + 8) c (by omega) hc).upto N (by omega)
            rw [if_neg h, ← List.drop_drop, hq] at this
            exact this
          have HQN := Lib.hid (show q.length = N by rw [← hq, List.length_take, List.length_drop, HDL.out]; omega)
          have HSQA := Lib.hid hsqA
          have HSQR := Lib.hid hsqR
          have hsp := hsm.upto (8 + N) (by omega)
          have HFE := Lib.hid (frame_eq (l.drop m) (by rw [HDL.out]; exact h8) N HN.out (by rw [HDL.out]; omega))
          rw [hq] at HFE
          have HFR := Lib.hid (firstL_rest (p := l.drop m) (by rw [HDL.out]; omega) (by rw [HN.out, HDL.out]; omega))
          rw [HN.out, hq] at HFR
          have HQ := HQN
          clear hq hs
          have e5 : m + 8 + N - (m + 8) = N := by omega
          have e6 : m + 8 + N - m = 8 + N := by omega
          obtain ⟨pp, hpp⟩ : ∃ pp, (l.drop m).take (8 + N) = pp := ⟨_, rfl⟩
          rw [hpp] at hsp HFE
          obtain ⟨b, hb⟩ : ∃ b, (frameL q == pp) = b := ⟨_, rfl⟩
          have HB := Lib.hid hb
          have HBF := Lib.hid (show firstL (l.drop m) = if b = true then some q else none by
            rw [HFR.out, ← HB.out, HFE.out]
            simp)
          clear hpp hb HFE HFR hsqA hsqR
          have hw1 : IntKind.i64.wrap ((m : Int) + 8) = (m : Int) + 8 := IntWalk.i64_in _ (by omega)
          have hw2 : IntKind.i64.wrap ((m : Int) + 8 + (N : Int)) = (m : Int) + 8 + (N : Int) := IntWalk.i64_in _ (by omega)
          by_cases hc8 : c = m + 8
          all_goals
            have hb0 : (0 : Int) ≤ (m : Int) + 8 + (N : Int) := by omega
            have hb1 : (m : Int) + 8 + (N : Int) ≤ (c : Int) := by omega
            first | (have hb3 : (m : Int) + 8 + (N : Int) ≤ (m : Int) + 8 := by omega) | (have hb3 : True := trivial)
            have hb4 : ((m : Int) + 8 + (N : Int)).toNat = m + 8 + N := by omega
            have hb5 : m ≤ m + 8 + N := by omega
            go_wp2_with fail
            refine (join_any _ none N 0 _ 0 q [] W ?hs (Seg.nil _ _) ?hle).mono ?_
            case hs => first | exact HSQA.out hc8 | exact HSQR.out hc8
            case hle => omega
            rintro e w2 ⟨v2, rfl, ho2, hb2⟩
            rw [List.append_nil] at ho2
            have hlt2 := ho2.lt
            obtain ⟨A2, c2, rfl, hs2, hc2, hm2⟩ := ho2.forms
            rw [HQ.out] at hs2 hc2 ⊢
            have hbw2 := Below.next' hbw hb2 hbw.size
            have hsp2 := hsp.below hb2
            have ho3 := ho.below hb2
            obtain ⟨f, rfl⟩ : ∃ f, f = u4 := ⟨_, rfl⟩
            have hltS : ∀ x, f.ownBlock = some x → x < W.heap.size := by
              obtain ⟨S1, hS1, _⟩ := ho
              exact fun x hx => (hS1.lt x hx).2
            have hne : 0 < N → ∀ a, A2 = some a → f.ownBlock ≠ some a.block ∧ w.heap.size ≤ a.block := fun hn a ha => by
              cases ha
              have h2 := (hlt2 a.block rfl).1
              have h3 := hbw.size
              refine ⟨fun e => ?_, by omega⟩
              have h1 := hltS _ e
              omega
            clear ho2 ho hsp hb2 hlt2 hltS
            have HF := Lib.hid (show (frameL q).length = 8 + N by rw [frameL_length, HQ.out])
            generalize hfq : frameL q = fq at *
            have HFQ := Lib.hid hfq
            clear hfq
            go_wp2_with fail
            refine wp_region_noPanic (wp_region_tills (fun _ => True) (fun j => decide (10 ≤ j)) (by kernel_rfl) ?_)
            have hD := Below.drewN' (Below.refl w2.heap.size w2) 1
            change wpAnyS _ _ _ _ _ _ 11 _ _ (w2.drewN 1)
            refine wpAnyS_take (i := 0) (v := .slice A2 N c2) rfl (by kernel_rfl) (fun _ _ _ h => h) trivial (Or.inl ⟨rfl, fun W' hW => by go_simp⟩) ?_
            refine wpAnyS_take (i := 2) (v := .slice A n c) rfl (by kernel_rfl) (fun _ _ _ h => h) trivial (Or.inl ⟨rfl, fun W' hW => by go_simp⟩) ?_
            refine wpAnyS_take (i := 3) (v := .int .i64 (m : Int)) rfl (by kernel_rfl) (fun _ _ _ h => h) trivial (Or.inl ⟨rfl, fun W' hW => by go_simp⟩) ?_
            refine wpAnyS_take (i := 4) (v := .int .i64 (m : Int)) rfl (by kernel_rfl) (fun _ _ _ h => h) trivial (Or.inl ⟨rfl, fun W' hW => by go_simp⟩) ?_
            refine wpAnyS_take (i := 5) (v := .int .i64 ((m : Int) + 8)) rfl (by kernel_rfl) (fun _ _ _ h => h) trivial (Or.inl ⟨rfl, fun W' hW => by go_simp⟩) ?_
            refine wpAnyS_take (i := 6) (v := .int .i64 (N : Int)) rfl (by kernel_rfl) (fun _ _ _ h => h) trivial (Or.inl ⟨rfl, fun W' hW => by go_simp⟩) ?_
            refine wpAnyS_take (i := 7) (v := .int .i64 ((m : Int) + 8 + (N : Int))) rfl (by kernel_rfl) (fun _ _ _ h => h) trivial (Or.inl ⟨rfl, fun W' hW => by go_simp⟩) ?_
            refine wpAnyS_take (i := 8) (v := .slice R4 (8 + N) (c - m)) rfl (by kernel_rfl) (fun _ _ _ h => h) trivial (Or.inl ⟨rfl, fun W' hW => by go_simp⟩) ?_
            refine wpAnyS_step 1 rfl (by decide +kernel) ?_
            go_wp2_with fail
            refine (rframe_any A2 N c2 q _ (hs2.below hD) (by omega)).mono ?_
            rw [HFQ.out]
            rintro e w3 ⟨v3, rfl, ho3', hb3⟩
            obtain ⟨A3, c3, rfl, hs3, _, _⟩ := ho3'.forms
            rw [HF.out] at hs3 ⊢
            have hB3 := Below.next hD hb3
            clear ho3'
            go_wp2_with fail
            refine ⟨.inr trivial, ?_⟩
            refine wpAnyS_step 9 rfl (by decide +kernel) ?_
            go_wp2_with fail
            refine (bytes_any A3 _ (8 + N) (8 + N) c3 _ fq pp _ hs3 (hsp2.below hB3) (by simp only [maxLen]; omega)).mono ?_
            rw [HB.out]
            rintro e w4 ⟨rfl, u, rfl⟩
            have hB := Below.drewN' hB3 u
            go_wp2_with fail
            refine ⟨.inr trivial, ?_⟩
            refine wpAnyS_step 10 rfl (by decide +kernel) ?_
            go_wp2_with fail
            refine ⟨.inl rfl, ?_⟩
            refine wpAnyS_done (by decide +kernel) (NoPanic.normal ?_)
            have hbw4 := Below.next' hbw2 hB hbw2.size
            have ho4 := ho3.below hB
            have hs24 := hs2.below hB
            clear hB hB3 hD hb3 hs3 ho3 hs2 hsp2 hbw2
            generalize w3.drewN u = w4 at *
            cases b with
            | false =>
              go_wp2
              go_ret2
              rw [HEND.out (by rw [HBF.out]; rfl), HSZ.out]
              exact ⟨_, rfl, ho4, hbw4⟩
            | true =>
              obtain ⟨S, hS, hSl, hSe⟩ := ho4
              have hq2 : BsAt w4 w.heap.size f ⟨A2, N, c2⟩ q := ⟨hs24, hc2, hm2, hne⟩
              have hbd : S.length ≤ 1000000 := by
                have h1 := HSZ.out
                have h2 : ∀ M : List (List UInt8), M.length ≤ sizeL M := by
                  intro M
                  induction M with
                  | nil => simp [sizeL]
                  | cons a M ih => simp only [List.length_cons, sizeL]; omega
                have := h2 L
                omega
              clear hs24 hne
              go_wp2_with (first
                | (at_builtin
                   refine wpList_append_G _ rfl (.tmp 51) (.tmp 53) _ _ _ _ bsT rfl w.heap.size f S rfl (OwnG.alloc hS _) _ 1 1 [⟨A2, N, c2⟩] rfl (SegG.newAt _ _ _ _ _ _ rfl rfl rfl) (by omega) (by have := hbw4.size; simp; omega) ?_
                   intro v5 w5 ho5 hg5 hv5
                   have hb5w : Below w.heap.size w w5 := below_grownG (hbw4.alloc hbw4.size _) (OwnG.alloc hS _) hg5 (Nat.le_refl _) (by have := hbw4.size; simp; omega)
                   have ho6 := OwnL.append hSl hSe hq2 ho5 hg5 hv5))
              go_roundw
              case rel =>
                first | refine ⟨L ++ [q], m + (8 + N), by go_num, ho6, ?_, ?_, by omega, hb5w⟩ | refine ⟨L ++ [q], m + (8 + N), by omega, ho6, ?_, ?_, by omega⟩
                · rw [HSC.out, scanL_some (q := q) (by rw [HBF.out]; rfl), HQ.out, List.drop_drop, List.append_assoc]
                  rfl
                · rw [sizeL_snoc, HSZ.out, HQ.out]
              case measure => simp [intOf]; omega
    · have hd0 : decide ((8 : Int) ≤ (n : Int) - (m : Int)) = false := decide_eq_false (by omega)
      go_wp2
      go_ret2
      rw [HEND.out (firstL_short (by rw [HDL.out]; omega)), HSZ.out]
      exact ⟨_, rfl, ho, hbw⟩

end Go.Proofs.YtkmcnkonkalfkaaDoor
