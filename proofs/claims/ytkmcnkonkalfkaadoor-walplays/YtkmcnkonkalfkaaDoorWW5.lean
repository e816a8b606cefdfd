/-
  The walks of the law's own helpers: same, small, all.
-/
import Derived.Test.YtkmcnkonkalfkaaDoorWW4
import Derived.Test.YtkmcnkonkalfkaaDoorQS
namespace Go.Proofs.YtkmcnkonkalfkaaDoor
open Go.RowKit

set_option maxHeartbeats 4000000 in
theorem same_any (A B : Option Addr) (n m c d : Nat) (L M : List (List UInt8)) (w : World) (ha : SegL w A n L) (hb : SegL w B m M) (hn : n ≤ 1000000) :
    Calls Tryd.prog 17 #[.slice A n c, .slice B m d] w fun e w' => e = .returned (.bool (L == M)) ∧ ∃ k, w' = w.drewN k := by
  by_cases hnm : n = m
  · subst hnm
    go_enter Tryd.func17, Tryd.ntmps17
    go_wp2
    go_loopw [5] (fun i w' => ∃ k : Nat, k ≤ n ∧ i = .int .i64 k ∧ L.take k = M.take k ∧ ∃ q, w' = w.drewN q) (fun i _ => n - (intOf i).toNat)
    case atStart => exact ⟨0, by omega, rfl, by simp, 0, rfl⟩
    case round =>
      obtain ⟨k, hk, rfl, he, q, rfl⟩ := hrel
      by_cases hlt : k < n
      · obtain ⟨g, o, rfl, hc⟩ := ha.2 (by omega)
        obtain ⟨g', o', rfl, hc'⟩ := hb.2 (by omega)
        have hl1 : k < L.length := by rw [ha.1]; exact hlt
        have hl2 : k < M.length := by rw [hb.1]; exact hlt
        obtain ⟨B1, m1, c1, x1, s1, y1, z1⟩ := hc k _ (List.getElem?_eq_getElem hl1)
        obtain ⟨B2, m2, c2, x2, s2, y2, z2⟩ := hc' k _ (List.getElem?_eq_getElem hl2)
        have HE := Lib.hid he
        have HT1 := Lib.hid (List.take_succ_eq_append_getElem hl1)
        have HT2 := Lib.hid (List.take_succ_eq_append_getElem hl2)
        have HG := Lib.hid (show L[k] ≠ M[k] → (L == M) = false from fun h => by rw [beq_eq_false_iff_ne]; rintro rfl; exact h rfl)
        clear he hc hc'
        generalize L[k] = a at *
        generalize M[k] = b at *
        clear hl1 hl2
        by_cases heq : a = b
        · have ht : (a == b) = true := by rw [beq_iff_eq]; exact heq
          have HQ := Lib.hid heq
          clear heq
          go_wp2
          refine wp_region_noPanic (wp_region_tills (fun W' => W'.cell? ⟨g, o + k, none⟩ = some (.slice B1 m1 c1) ∧ W'.cell? ⟨g', o' + k, none⟩ = some (.slice B2 m2 c2)) (fun j => decide (9 ≤ j)) (by kernel_rfl) ?_)
          have xx : ∀ u, (w.drewN u).cell? ⟨g, o + k, none⟩ = some (.slice B1 m1 c1) ∧ (w.drewN u).cell? ⟨g', o' + k, none⟩ = some (.slice B2 m2 c2) := fun _ => ⟨x1, x2⟩
          change wpAnyS _ _ _ _ _ _ 10 _ _ (w.drewN (q + 1))
          refine wpAnyS_take (i := 0) (v := .slice (some ⟨g, o, none⟩) n c) rfl (by kernel_rfl) (fun _ _ _ h => h) (xx _) (Or.inl ⟨rfl, fun W' hW => by obtain ⟨q0, q1⟩ := hW; go_simp⟩) ?_
          refine wpAnyS_take (i := 1) (v := .int .i64 (k : Int)) rfl (by kernel_rfl) (fun _ _ _ h => h) (xx _) (Or.inl ⟨rfl, fun W' hW => by obtain ⟨q0, q1⟩ := hW; go_simp⟩) ?_
          refine wpAnyS_take (i := 2) (v := .pointer (some ⟨g, o + k, none⟩)) rfl (by kernel_rfl) (fun _ _ _ h => h) (xx _) (Or.inl ⟨rfl, fun W' hW => by obtain ⟨q0, q1⟩ := hW; go_simp⟩) ?_
          refine wpAnyS_take (i := 3) (v := .slice B1 m1 c1) rfl (by kernel_rfl) (fun _ _ _ h => h) (xx _) (Or.inl ⟨rfl, fun W' hW => by obtain ⟨q0, q1⟩ := hW; go_simp⟩) ?_
          refine wpAnyS_take (i := 4) (v := .slice (some ⟨g', o', none⟩) n d) rfl (by kernel_rfl) (fun _ _ _ h => h) (xx _) (Or.inl ⟨rfl, fun W' hW => by obtain ⟨q0, q1⟩ := hW; go_simp⟩) ?_
          refine wpAnyS_take (i := 5) (v := .int .i64 (k : Int)) rfl (by kernel_rfl) (fun _ _ _ h => h) (xx _) (Or.inl ⟨rfl, fun W' hW => by obtain ⟨q0, q1⟩ := hW; go_simp⟩) ?_
          refine wpAnyS_take (i := 6) (v := .pointer (some ⟨g', o' + k, none⟩)) rfl (by kernel_rfl) (fun _ _ _ h => h) (xx _) (Or.inl ⟨rfl, fun W' hW => by obtain ⟨q0, q1⟩ := hW; go_simp⟩) ?_
          refine wpAnyS_take (i := 7) (v := .slice B2 m2 c2) rfl (by kernel_rfl) (fun _ _ _ h => h) (xx _) (Or.inl ⟨rfl, fun W' hW => by obtain ⟨q0, q1⟩ := hW; go_simp⟩) ?_
          refine wpAnyS_step 8 rfl (by decide +kernel) ?_
          go_wp2_with fail
          refine (bytes_any B1 B2 m1 m2 c1 c2 a b _ (s1.drewN _) (s2.drewN _) (Nat.le_trans y1 z1)).mono ?_
          rw [ht]
          rintro e w2 ⟨rfl, q2, rfl⟩
          rw [World.drewN_drewN]
          go_wp2_with fail
          refine ⟨.inr (xx _), ?_⟩
          refine wpAnyS_step 9 rfl (by decide +kernel) ?_
          go_wp2_with fail
          refine ⟨.inl rfl, ?_⟩
          refine wpAnyS_done (by decide +kernel) (NoPanic.normal ?_)
          go_wp2
          go_roundw
          case rel => exact ⟨k + 1, hlt, by go_num, by rw [HT1.out, HT2.out, HE.out, HQ.out], _, rfl⟩
          case measure => simp [intOf]; omega
        · have ht : (a == b) = false := by rw [beq_eq_false_iff_ne]; exact heq
          go_wp2
          refine wp_region_noPanic (wp_region_tills (fun W' => W'.cell? ⟨g, o + k, none⟩ = some (.slice B1 m1 c1) ∧ W'.cell? ⟨g', o' + k, none⟩ = some (.slice B2 m2 c2)) (fun j => decide (9 ≤ j)) (by kernel_rfl) ?_)
          have xx : ∀ u, (w.drewN u).cell? ⟨g, o + k, none⟩ = some (.slice B1 m1 c1) ∧ (w.drewN u).cell? ⟨g', o' + k, none⟩ = some (.slice B2 m2 c2) := fun _ => ⟨x1, x2⟩
          change wpAnyS _ _ _ _ _ _ 10 _ _ (w.drewN (q + 1))
          refine wpAnyS_take (i := 0) (v := .slice (some ⟨g, o, none⟩) n c) rfl (by kernel_rfl) (fun _ _ _ h => h) (xx _) (Or.inl ⟨rfl, fun W' hW => by obtain ⟨q0, q1⟩ := hW; go_simp⟩) ?_
          refine wpAnyS_take (i := 1) (v := .int .i64 (k : Int)) rfl (by kernel_rfl) (fun _ _ _ h => h) (xx _) (Or.inl ⟨rfl, fun W' hW => by obtain ⟨q0, q1⟩ := hW; go_simp⟩) ?_
          refine wpAnyS_take (i := 2) (v := .pointer (some ⟨g, o + k, none⟩)) rfl (by kernel_rfl) (fun _ _ _ h => h) (xx _) (Or.inl ⟨rfl, fun W' hW => by obtain ⟨q0, q1⟩ := hW; go_simp⟩) ?_
          refine wpAnyS_take (i := 3) (v := .slice B1 m1 c1) rfl (by kernel_rfl) (fun _ _ _ h => h) (xx _) (Or.inl ⟨rfl, fun W' hW => by obtain ⟨q0, q1⟩ := hW; go_simp⟩) ?_
          refine wpAnyS_take (i := 4) (v := .slice (some ⟨g', o', none⟩) n d) rfl (by kernel_rfl) (fun _ _ _ h => h) (xx _) (Or.inl ⟨rfl, fun W' hW => by obtain ⟨q0, q1⟩ := hW; go_simp⟩) ?_
          refine wpAnyS_take (i := 5) (v := .int .i64 (k : Int)) rfl (by kernel_rfl) (fun _ _ _ h => h) (xx _) (Or.inl ⟨rfl, fun W' hW => by obtain ⟨q0, q1⟩ := hW; go_simp⟩) ?_
          refine wpAnyS_take (i := 6) (v := .pointer (some ⟨g', o' + k, none⟩)) rfl (by kernel_rfl) (fun _ _ _ h => h) (xx _) (Or.inl ⟨rfl, fun W' hW => by obtain ⟨q0, q1⟩ := hW; go_simp⟩) ?_
          refine wpAnyS_take (i := 7) (v := .slice B2 m2 c2) rfl (by kernel_rfl) (fun _ _ _ h => h) (xx _) (Or.inl ⟨rfl, fun W' hW => by obtain ⟨q0, q1⟩ := hW; go_simp⟩) ?_
          refine wpAnyS_step 8 rfl (by decide +kernel) ?_
          go_wp2_with fail
          refine (bytes_any B1 B2 m1 m2 c1 c2 a b _ (s1.drewN _) (s2.drewN _) (Nat.le_trans y1 z1)).mono ?_
          rw [ht]
          rintro e w2 ⟨rfl, q2, rfl⟩
          rw [World.drewN_drewN]
          go_wp2_with fail
          refine ⟨.inr (xx _), ?_⟩
          refine wpAnyS_step 9 rfl (by decide +kernel) ?_
          go_wp2_with fail
          refine ⟨.inl rfl, ?_⟩
          refine wpAnyS_done (by decide +kernel) (NoPanic.normal ?_)
          go_wp2
          go_ret
          exact ⟨by rw [HG.out heq]; rfl, _, rfl⟩
      · go_wp2
        go_ret
        have : (L == M) = true := by
          rw [beq_iff_eq]
          have h1 := ha.1
          have h2 := hb.1
          rw [List.take_of_length_le (by omega), List.take_of_length_le (by omega)] at he
          exact he
        exact ⟨by rw [this]; rfl, _, rfl⟩
  · have h1 : ((n : Int) != (m : Int)) = true := by simp; omega
    go_enter Tryd.func17, Tryd.ntmps17
    go_wp2
    go_ret
    have : (L == M) = false := by
      rw [beq_eq_false_iff_ne]; rintro rfl; exact hnm (ha.1.symm.trans hb.1)
    exact ⟨by rw [this]; rfl, 0, rfl⟩

/-- Not too many, and none too long. -/
def Small (L : List (List UInt8)) : Prop := L.length ≤ 20 ∧ ∀ q ∈ L, q.length ≤ 60
theorem Small.size {L : List (List UInt8)} (h : ∀ q ∈ L, q.length ≤ 60) : sizeL L ≤ 68 * L.length := by
  induction L with
  | nil => simp [sizeL]
  | cons a M ih =>
    have h1 := ih fun q hq => h q (List.mem_cons_of_mem _ hq)
    have h2 := h a (List.mem_cons_self ..)
    simp only [List.length_cons, sizeL]
    omega
theorem Small.le {L : List (List UInt8)} (h : Small L) : ∀ q ∈ L, q.length ≤ 1048576 := fun q hq => by have := h.2 q hq; omega

set_option maxHeartbeats 4000000 in
theorem small_any (A : Option Addr) (n c : Nat) (L : List (List UInt8)) (w : World) (ha : SegL w A n L) (hc : n ≤ c) (hcm : c ≤ maxLen) :
    Calls Tryd.prog 18 #[.slice A n c] w fun e w' => (∃ b, e = .returned (.bool b) ∧ (b = true ↔ Small L)) ∧ w' = w := by
  simp only [maxLen] at hcm
  have HLN := Lib.hid ha.1
  go_enter Tryd.func18, Tryd.ntmps18
  go_wp2
  go_loopw [3] (fun i w' => ∃ k : Nat, k ≤ n ∧ i = .int .i64 k ∧ (∀ q ∈ L.take k, q.length ≤ 60) ∧ w' = w) (fun i _ => n - (intOf i).toNat)
  case atStart => exact ⟨0, by omega, rfl, by simp, rfl⟩
  case round =>
    obtain ⟨k, hk, rfl, he, rfl⟩ := hrel
    have HE := Lib.hid he
    clear he
    by_cases hlt : k < n
    · obtain ⟨g, o, rfl, hel⟩ := ha.2 (by omega)
      have hl1 : k < L.length := by rw [HLN.out]; exact hlt
      obtain ⟨B1, m1, c1, x1, s1, y1, z1⟩ := hel k _ (List.getElem?_eq_getElem hl1)
      have HT := Lib.hid (List.take_succ_eq_append_getElem hl1)
      have HM := Lib.hid (List.getElem_mem hl1)
      clear hel
      have HX := Lib.hid s1.1
      generalize L[k] = a at *
      clear hl1
      by_cases h60 : m1 ≤ 60
      · have d0 : decide ((60 : Int) < (m1 : Int)) = false := decide_eq_false (by omega)
        go_wp2
        go_roundw
        case rel =>
          refine ⟨k + 1, hlt, by go_num, fun q hq => ?_, trivial⟩
          rw [HT.out, List.mem_append] at hq
          rcases hq with hq | hq
          · exact HE.out q hq
          · simp at hq
            rw [hq, HX.out]
            exact h60
        case measure => simp [intOf]; omega
      · have d0 : decide ((60 : Int) < (m1 : Int)) = true := decide_eq_true (by omega)
        go_wp2
        go_ret
        refine ⟨⟨_, rfl, ⟨fun h => (by simp at h), fun h => ?_⟩⟩, rfl⟩
        have := h.2 a HM.out
        rw [HX.out] at this
        omega
    · have HA := Lib.hid (show ∀ q ∈ L, q.length ≤ 60 by
        have := HE.out
        rw [List.take_of_length_le (by rw [HLN.out]; omega)] at this
        exact this)
      go_wp2
      go_ret
      refine ⟨⟨_, rfl, ⟨fun h => ⟨?_, HA.out⟩, fun h => ?_⟩⟩, rfl⟩
      · rw [HLN.out]
        first | (have h' := of_decide_eq_true h; omega) | (simp at h; omega)
      · have := h.1
        rw [HLN.out] at this
        first | exact decide_eq_true (by omega) | (simp; omega)

set_option maxHeartbeats 4000000 in
theorem all_any (A : Option Addr) (n c : Nat) (L : List (List UInt8)) (w : World) (ha : SegL w A n L) (hL : Small L) :
    Calls Tryd.prog 19 #[.slice A n c] w fun e w' => ∃ v, e = .returned v ∧ Own w' w.heap.size 5 v (allL L) ∧ Below w.heap.size w w' := by
  have HLN := Lib.hid ha.1
  have HL := Lib.hid hL
  have h20 : n ≤ 20 := by rw [← ha.1]; exact hL.1
  clear hL
  go_enter Tryd.func19, Tryd.ntmps19
  go_wp2
  go_loopw [3, 4] (fun p i w' => ∃ k : Nat, k ≤ n ∧ i = .int .i64 k ∧ Own w' w.heap.size 5 p (allL (L.take k)) ∧ Below w.heap.size w w') (fun _ i _ => n - (intOf i).toNat)
  case atStart => exact ⟨0, by omega, rfl, Own.nil _ _ _, Below.refl _ _⟩
  case round =>
    obtain ⟨k, hk, rfl, ho, hbw⟩ := hrel
    rename World => W
    by_cases hlt : k < n
    · obtain ⟨g, o, rfl, hel⟩ := ha.2 (by omega)
      have hl1 : k < L.length := by rw [HLN.out]; exact hlt
      obtain ⟨B1, m1, c1, x0, s0, y1, z1⟩ := hel k _ (List.getElem?_eq_getElem hl1)
      have x1 := cell_below hbw x0
      have s1 := s0.below hbw
      have HT := Lib.hid (List.take_succ_eq_append_getElem hl1)
      have h60 : m1 ≤ 60 := by rw [← s1.1]; exact HL.out.2 _ (List.getElem_mem hl1)
      have HS := Lib.hid (show (allL (L.take k)).length ≤ 2000 by
        rw [allL_length]
        have := Small.size (L := L.take k) fun q hq => HL.out.2 q (List.mem_of_mem_take hq)
        have h2 : (L.take k).length = k := by rw [List.length_take, HLN.out]; omega
        omega)
      generalize L[k] = a at *
      clear hel hl1 x0 s0
      obtain ⟨A0, c0, rfl, hs0, _, _⟩ := ho.forms
      obtain ⟨d, hd⟩ : ∃ d, allL (L.take k) = d := ⟨_, rfl⟩
      rw [hd] at hs0 ⊢
      have HD := Lib.hid hd
      have HSd := Lib.hid (show d.length ≤ 2000 by rw [← hd]; exact HS.out)
      clear ho hd
      go_wp2_with fail
      refine (rframe_any B1 m1 c1 a _ s1 (by omega)).mono ?_
      rintro e w1 ⟨v1, rfl, ho1, hb1⟩
      obtain ⟨A1, c1, rfl, hs1, _, _⟩ := ho1.forms
      have HF := Lib.hid (frameL_length a)
      have HA := Lib.hid s1.1
      generalize hfr : frameL a = fr at *
      have HFR := Lib.hid hfr
      clear ho1 hfr
      go_wp2_with fail
      refine (join_any A0 A1 _ _ c0 c1 d fr _ (hs0.below hb1) hs1 (by have := HSd.out; have := HF.out; have := HA.out; omega)).mono ?_
      rintro e w2 ⟨v2, rfl, ho2, hb2⟩
      have hbw2 := Below.next' hbw (Below.next hb1 hb2) hbw.size
      have ho3 := ho2.mono (Nat.le_trans hbw.size hb1.size)
      clear ho2 hs0 hs1 hb1 hb2 s1 x1
      go_wp2
      go_roundw
      case rel => exact ⟨k + 1, hlt, by go_num, by rw [HT.out, allL_snoc, HFR.out, HD.out]; exact ho3, hbw2⟩
      case measure => simp [intOf]; omega
    · have e : L.take k = L := List.take_of_length_le (by rw [HLN.out]; omega)
      rw [e] at ho
      go_wp2
      go_ret
      exact ⟨_, rfl, ho, hbw⟩

end Go.Proofs.YtkmcnkonkalfkaaDoor
