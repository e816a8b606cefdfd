/-
  The walk of the program's Scan.
-/
import Derived.Test.YtkmcnkonkalfkaaDoorWW2
import Derived.Test.YtkmcnkonkalfkaaDoorMemL
namespace Go.Proofs.YtkmcnkonkalfkaaDoor
open Go.RowKit

set_option maxHeartbeats 4000000 in
theorem scan_any (A : Option Addr) (n c : Nat) (l : List UInt8) (w : World) (ha : Seg w A n l) (hn : n ≤ 1000000) (hc : n ≤ c) (hcm : c ≤ maxLen) (ht : Tab w) :
    Calls Tryd.prog 12 #[.slice A n c] w fun e w' => ∃ v, e = .returned (.tuple #[v, .int .i64 (sizeL (scanL l) : Int)]) ∧ OwnL w' w.heap.size v (scanL l) ∧ Below w.heap.size w w' := by
  have HLN := Lib.hid ha.1
  have HC := Lib.hid hcm
  simp only [maxLen] at hcm
  go_enter Tryd.func12, Tryd.ntmps12
  go_wp2_with fail
  go_loopw [4, 5, 6, 7] (fun f z _ _ w' => ∃ (L : List (List UInt8)) (m : Nat), z = .int .i64 m ∧ OwnL w' w.heap.size f L ∧ scanL l = L ++ scanL (l.drop m) ∧ sizeL L = m ∧ m ≤ n ∧ Below w.heap.size w w') (fun _ z _ _ _ => n - (intOf z).toNat)
  case atStart => exact ⟨[], 0, rfl, OwnL.nil _ _, by simp, rfl, by omega, Below.refl _ _⟩
  case round =>
    obtain ⟨L, m, rfl, ho, hsc, hsz, hm, hbw⟩ := hrel
    rename World => W
    have HSC := Lib.hid hsc
    have HSZ := Lib.hid hsz
    obtain ⟨R, hR⟩ : ∃ R, (if c = m then A else Option.map (fun x => x.add m) A) = R := ⟨_, rfl⟩
    have hs : Seg W R (n - m) (l.drop m) := by
      have := (ha.below hbw).fromA m c hm hc
      rw [hR] at this
      exact this
    clear hsc hsz
    go_wp2_with fail
    refine (first_any R (n - m) (c - m) (l.drop m) _ hs (by omega) (by have := HC.out; omega) (Tab.below ht hbw)).mono ?_
    rintro e w1 ⟨⟨hnone, rfl⟩ | ⟨q, B, c', hq, rfl, hsq, hqc, hcm'⟩, hb1⟩
    · go_wp2
      go_ret2
      have e1 : scanL l = L := by rw [HSC.out, scanL_none hnone, List.append_nil]
      rw [e1, HSZ.out]
      exact ⟨_, rfl, ho.below hb1, Below.next' hbw hb1 hbw.size⟩
    · have HQ := Lib.hid hq
      have hqlen := (firstL_len hq).1
      rw [List.length_drop, HLN.out] at hqlen
      clear hq
      obtain ⟨k, hk⟩ : ∃ k, q.length = k := ⟨_, rfl⟩
      rw [hk] at hsq hqc hqlen ⊢
      have HK := Lib.hid hk
      clear hk hs hR
      have hbw1 := Below.next' hbw hb1 hbw.size
      have ho1 := ho.below hb1
      clear ho hb1 hbw
      go_wp2_with fail
      refine (clone_any B k c' q _ hsq (by omega)).mono ?_
      rintro e w2 ⟨v2, rfl, ho2, hb2⟩
      have ho3 := ho1.below hb2
      have hbw2 := Below.next' hbw1 hb2 hbw1.size
      have hlt2 := ho2.lt
      obtain ⟨A2, c2, rfl, hs2, hc2, hm2⟩ := ho2.forms
      rw [HK.out] at hs2 hc2 ⊢
      obtain ⟨f, rfl⟩ : ∃ f, f = u4 := ⟨_, rfl⟩
      obtain ⟨S, hS, hSl, hSe⟩ := ho3
      have hltS : ∀ x, f.ownBlock = some x → x < w1.heap.size := by
        obtain ⟨S1, hS1, _⟩ := ho1
        exact fun x hx => (hS1.lt x hx).2
      have hq2 : BsAt w2 w.heap.size f ⟨A2, k, c2⟩ q := ⟨hs2, hc2, hm2, fun hn a ha => by
        cases ha
        have h2 := (hlt2 a.block rfl).1
        have h3 := hbw1.size
        refine ⟨fun e => ?_, by omega⟩
        have h1 := hltS _ e
        omega⟩
      clear ho1 ho2 hsq hb2 hlt2 hltS hs2
      have hbd : S.length ≤ 1000000 := by
        have h1 := HSZ.out
        have h2 : ∀ M : List (List UInt8), M.length ≤ sizeL M := by
          intro M
          induction M with
          | nil => simp [sizeL]
          | cons a M ih => simp only [List.length_cons, sizeL]; omega
        have := h2 L
        omega
      go_wp2_with (first
        | (at_builtin
           refine wpList_append_G _ rfl (.tmp 19) (.tmp 22) _ _ _ _ bsT rfl w.heap.size f S rfl (OwnG.alloc hS _) _ 1 1 [⟨A2, k, c2⟩] rfl (SegG.newAt _ _ _ _ _ _ rfl rfl rfl) (by omega) (by have := hbw2.size; simp; omega) ?_
           intro v4 w4 ho4 hg4 hv4
           have hb4 : Below w.heap.size w w4 := below_grownG (hbw2.alloc hbw2.size _) (OwnG.alloc hS _) hg4 (Nat.le_refl _) (by have := hbw2.size; simp; omega)
           have ho5 := OwnL.append hSl hSe hq2 ho4 hg4 hv4))
      go_roundw
      case rel =>
        refine ⟨L ++ [q], m + (8 + k), by go_num, ho5, ?_, ?_, by omega, hb4⟩
        · rw [HSC.out, scanL_some HQ.out, HK.out, List.drop_drop, List.append_assoc]
          rfl
        · rw [sizeL_snoc, HSZ.out, HK.out]
      case measure => simp [intOf]; omega

end Go.Proofs.YtkmcnkonkalfkaaDoor
