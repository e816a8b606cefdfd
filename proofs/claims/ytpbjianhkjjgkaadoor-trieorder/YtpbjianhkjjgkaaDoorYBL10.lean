/-
  The walk of the law TrieOrder.
-/
import Derived.Test.YtpbjianhkjjgkaaDoorYBL9
namespace Go.Proofs.YtpbjianhkjjgkaaDoor
open Go.RowKit

theorem order_step {m Q R : List It} {k : Nat} (hm : Its m) (hQ : Its Q) (hQm : ∀ x ∈ Q, x ∈ m) (hRm : ∀ x ∈ R, x ∈ m) (hall : ∀ x ∈ m, x ∈ Q ∨ x ∈ R) (hk : k < R.length) :
    Its (putI Q R[k].1 R[k].2) ∧ (∀ x ∈ putI Q R[k].1 R[k].2, x ∈ m) ∧ (∀ x ∈ R.take k ++ R.drop (k + 1), x ∈ m) ∧ (∀ x ∈ m, x ∈ putI Q R[k].1 R[k].2 ∨ x ∈ R.take k ++ R.drop (k + 1)) := by
  have hx := hRm _ (List.getElem_mem hk)
  refine ⟨hQ.put (hm.2 _ hx) _, fun y hy => ?_, fun y hy => ?_, fun y hy => ?_⟩
  · rcases (mem_put hQ.1 y).1 hy with rfl | ⟨h, _⟩
    · exact hx
    · exact hQm y h
  · rcases List.mem_append.1 hy with h | h
    · exact hRm y (List.mem_of_mem_take h)
    · exact hRm y (List.mem_of_mem_drop h)
  · by_cases e : y.1 = R[k].1
    · have : y = R[k] := asc_key hm.1 hy hx e
      exact .inl ((mem_put hQ.1 y).2 (.inl this))
    · rcases hall y hy with h | h
      · exact .inl ((mem_put hQ.1 y).2 (.inr ⟨h, e⟩))
      · right
        have h3 : R = R.take k ++ R[k] :: R.drop (k + 1) := by rw [← List.drop_eq_getElem_cons hk, List.take_append_drop]
        rw [h3] at h
        rcases List.mem_append.1 h with h | h
        · exact List.mem_append.2 (.inl h)
        · rcases List.mem_cons.1 h with h | h
          · exact absurd (by rw [h]) e
          · exact List.mem_append.2 (.inr h)
theorem its_take {w : World} : ∀ {S : List ItS} {m : List It}, ItsAt w S m → ∀ k, ItsAt w (S.take k) (m.take k)
  | _, _, _, 0 => trivial
  | [], [], _, _ + 1 => trivial
  | _ :: _, _ :: _, h, k + 1 => ⟨h.1, its_take h.2 k⟩
  | [], _ :: _, h, _ + 1 => h.elim
  | _ :: _, [], h, _ + 1 => h.elim
theorem its_drop {w : World} : ∀ {S : List ItS} {m : List It}, ItsAt w S m → ∀ k, ItsAt w (S.drop k) (m.drop k)
  | _, _, h, 0 => h
  | [], [], _, _ + 1 => trivial
  | _ :: _, _ :: _, h, k + 1 => its_drop h.2 k
  | [], _ :: _, h, _ + 1 => h.elim
  | _ :: _, [], h, _ + 1 => h.elim
theorem its_append {w : World} : ∀ {S : List ItS} {m : List It}, ItsAt w S m → ∀ {T : List ItS} {r : List It}, ItsAt w T r → ItsAt w (S ++ T) (m ++ r)
  | [], [], _, _, _, h => h
  | _ :: _, _ :: _, h, _, _, h2 => ⟨h.1, its_append h.2 h2⟩
  | [], _ :: _, h, _, _, _ => h.elim
  | _ :: _, [], h, _, _, _ => h.elim
theorem its_cut {w : World} {S : List ItS} {m : List It} (h : ItsAt w S m) (k : Nat) : ItsAt w (S.take k ++ S.drop (k + 1)) (m.take k ++ m.drop (k + 1)) := its_append (its_take h k) (its_drop h (k + 1))

set_option maxRecDepth 8000 in
set_option maxHeartbeats 64000000 in
theorem trieOrder_core (A : Option Addr) (n c : Nat) (L : List TAct) (B : Option Addr) (nt ct : Nat) (tb : List UInt8) (w : World) (ha : SegTA w A n L) (hnc : n ≤ c) (hcm : c ≤ maxLen) (hb' : Seg w B nt tb) (hpd : nt ≤ ct) (hdm : ct ≤ maxLen) (hsm : SmallA 40 L) (ht : Tab w) :
    Calls Tryd.prog 7 #[.slice A n c, .slice B nt ct] w fun e w' => e = .returned (.bool true) ∧ Below w.heap.size w w' := by
  have hI := madeI_its L
  have hrw := madeI_row hsm
  have HMA := Lib.hid (fun W (h : Below w.heap.size w W) => made09_any A n c L W (ha.below h) hcm hnc hsm.1 (Tab.below ht h))
  have HSM := Lib.hid (fun W (h : Below w.heap.size w W) => small09_any A n c L true W (ha.below h) hcm hnc ⟨fun _ => hsm, fun _ => rfl⟩)
  obtain ⟨m, hmm⟩ : ∃ m, madeI L = m := ⟨_, rfl⟩
  simp only [hmm] at HMA hI hrw
  have HB := Lib.hid (fun W (h : Below w.heap.size w W) => hb'.below h)
  have HM := Lib.hid hI
  have HRW := Lib.hid hrw
  have HCNT := Lib.hid (tree_cnt 256 m 0 rfl (Good.root hI.1 hI.2))
  have hml := its_len hI
  unfold maxLen at hdm
  clear hmm hsm hrw hI ha hb' hnc
  go_enter Tryd.func7, Tryd.ntmps7
  go_wp2_with fail
  refine (back_any _ ht).mono ?_
  rintro e w1 ⟨rfl, hb1⟩
  go_wp2_with fail
  refine (HSM.out _ hb1).mono ?_
  rintro e w2 ⟨rfl, rfl⟩
  go_wp2_with fail
  refine (HMA.out _ hb1).mono ?_
  rintro e w4 ⟨tv, sv, S, rfl, hp, hso, hsi, hb4⟩
  have hb := Below.next' hb1 hb4 hb1.size
  obtain ⟨tq, rfl⟩ := hp.ptr
  obtain ⟨SA, sc, rfl, hsg, _, _⟩ := hso.forms
  have hsl := hsi.len
  obtain ⟨ns, hns⟩ : ∃ ns, S.length = ns := ⟨_, rfl⟩
  rw [hns] at hsg hsl ⊢
  have HSL := Lib.hid hsl
  have hns280 : ns ≤ 280 := by omega
  have hTD := fun W (h : Below w4.heap.size w4 W) => tdig_any _ _ W (hp.below h) (Tab.below ht (Below.next' hb h hb.size))
  have hLE := fun W (h : Below w4.heap.size w4 W) => tlen_any _ _ W (hp.below h)
  have hKE := fun W (h : Below w4.heap.size w4 W) => tkeys_any m _ W HM.out (hp.below h)
  rw [HCNT.out] at hLE
  have HTD := Lib.hid hTD
  have HLE := Lib.hid hLE
  have HKE := Lib.hid hKE
  have HSI4 := Lib.hid hsi
  clear hso hb1 hb4 HSM HMA hsl hTD hLE hKE hp hsi
  go_wp2_with (at_builtin
               refine wpList_append_G _ rfl (.const (.slice none 0 0)) (.tmp 24) _ _ _ _ itT rfl w4.heap.size (.slice none 0 0) [] rfl (OwnG.nil _ _ _) _ ns sc S rfl hsg (by simp; omega) (Nat.le_refl _) ?_
               intro v5 w5 hv5 hg5 hat5)
  have hbn := below_grownG (Below.refl w4.heap.size w4) (OwnG.nil (Y := itLay) w4 w4.heap.size 43) hg5 (Nat.le_refl _) (Nat.le_refl _)
  rw [List.nil_append] at hv5
  obtain ⟨A5, c5, rfl, hs5, hn5, hc5⟩ := hv5.forms
  rw [hns] at hs5 hn5 ⊢
  clear hv5 hg5 hat5 hsg hns
  go_wp2_with fail
  go_loopw [7, 8, 9, 10] (fun ov lv iv _ w' => ∃ (i : Nat) (R : List It) (S' : List ItS) (Q : List It) (A' : Option Addr) (n' c' : Nat), i + n' = ns ∧ iv = .int .i64 (i : Int) ∧ lv = .slice A' n' c' ∧ SegG itLay w' A' n' S' ∧ ItsAt w4 S' R ∧ Its Q ∧ (∀ x ∈ Q, x ∈ m) ∧ (∀ x ∈ R, x ∈ m) ∧ (∀ x ∈ m, x ∈ Q ∨ x ∈ R) ∧
      TreeAt w' (tree 256 Q 0) ov ∧ n' ≤ c' ∧ c' ≤ maxLen ∧ Below w4.heap.size w4 w') (fun _ lv _ _ _ => sliceLen lv)
  case atStart => exact ⟨0, m, S, [], A5, ns, c5, by omega, rfl, rfl, hs5, HSI4.out, ⟨List.Pairwise.nil, fun x hx => nomatch hx⟩, fun x hx => (nomatch hx), fun _ hx => hx, fun _ hx => .inr hx, rfl, hn5, hc5, hbn⟩
  case round =>
    clear hs5 hbn hn5 hc5
    obtain ⟨i, R, S', Q, A', n', c', hin, rfl, rfl, hsg, hsi, hQ, hQm, hRm, hall, hp, hnc', hcm', hbn⟩ := hrel
    obtain ⟨oq, rfl⟩ := hp.ptr
    unfold maxLen at hcm'
    rename World => wl
    by_cases hpos : 0 < n'
    · have dpos : decide ((0 : Int) < (n' : Int)) = true := decide_eq_true (by omega)
      by_cases hit' : i < nt
      · have dit : decide ((i : Int) < (nt : Int)) = true := decide_eq_true (by omega)
        obtain ⟨gt, ot, hBt, hct⟩ := (HB.out _ (Below.next' hb hbn hb.size)).at_ hit'
        obtain ⟨b, hb2⟩ : ∃ b : Nat, (tb[i]'(by rw [(HB.out _ (Below.next' hb hbn hb.size)).1]; exact hit')).toNat = b := ⟨_, rfl⟩
        rw [hb2] at hct
        have hbl : b < 256 := by rw [← hb2]; exact UInt8.toNat_lt _
        clear hb2
        obtain ⟨k, hkq⟩ : ∃ k, b % n' = k := ⟨_, rfl⟩
        have hkn : k < n' := by rw [← hkq]; exact Nat.mod_lt _ hpos
        have hm1 : (b : Int) % (n' : Int) = (k : Int) := by rw [← hkq]; rfl
        have hm2 : (b : Int).tmod (n' : Int) = (k : Int) := by rw [Int.tmod_eq_emod_of_nonneg (by omega)]; exact hm1
        have hne0 : ((n' : Int) == 0) = false := by simp; omega
        have hwb : IntKind.i64.wrap (b : Int) = (b : Int) := IntWalk.i64_in _ (by omega)
        clear hkq
        subst hBt
        obtain ⟨g, o, hA, hc⟩ := hsg.at_ hkn
        subst hA
        have h1 : k < S'.length := by rw [hsg.1]; exact hkn
        have h2 : k < R.length := by rw [← hsi.len]; exact h1
        have hit := ItsAt.at_ hsi k h1 h2
        have hmx := hRm _ (List.getElem_mem h2)
        obtain ⟨s, hs⟩ : ∃ s, S'[k]'h1 = s := ⟨_, rfl⟩
        obtain ⟨x, hx⟩ : ∃ x, R[k]'h2 = x := ⟨_, rfl⟩
        have c0 := hc 0 (.string s.s) (by rw [hs]; rfl)
        have c1 := hc 1 (.slice s.A s.n s.c) (by rw [hs]; rfl)
        have HSTEP := Lib.hid (order_step HM.out hQ hQm hRm hall h2)
        rw [hs, hx] at hit
        rw [hx] at hmx HSTEP
        have hxd := HM.out.2 x hmx
        have hxr := HRW.out x hmx
        obtain ⟨hxk, hxs, hxn, hxc⟩ := hit
        rw [show itLay.z = 2 from rfl] at c0 c1
        rw [Nat.add_zero] at c0
        rw [hxk] at c0
        have hxs := hxs.below hbn
        have HSI := Lib.hid (its_cut hsi k)
        have hRl := hsi.len
        obtain ⟨xu, xl⟩ := x
        obtain ⟨es, eA, en, ec⟩ := s
        dsimp only at c0 c1 hxd hxr hxs HSTEP
        have hen := hxs.1
        have HT := Lib.hid (fun W (h1 : TreeAt W (tree 256 Q 0) (.pointer oq)) (h2 : Seg W eA en xl) (h3 : Tab W) => tput_any Q xu xl _ eA en ec W hQ hxd h1 h2 (by omega) h3)
        obtain ⟨KX, hKX⟩ : ∃ KX, keyOf xu = KX := ⟨_, rfl⟩
        rw [hKX] at c0 HT
        have hsz := hsg.1
        clear hc hs hx hmx hxk hKX hsi hQ hQm hRm hall hen hxn hxc
        go_wp2
        rename World => wx
        refine wp_region_noPanic (wp_region_tills (fun W' => W'.cell? ⟨g, o + k * 2, none⟩ = some (.string KX) ∧ W'.cell? ⟨g, o + k * 2 + 1, none⟩ = some (.slice eA en ec)) (fun j => decide (12 ≤ j)) (by kernel_rfl) ?_)
        have hD := belD wx 1
        have c0 := cell_below hD c0
        have c1 := cell_below hD c1
        have hp := hp.below hD
        have hxs := hxs.below hD
        have hsg := hsg.below hD
        have hbn := Below.next' hbn hD hbn.size
        have hbw := Below.next' hb hbn hb.size
        change wpAnyS _ _ _ _ _ _ 13 _ _ (wx.drewN 1)
        clear hD
        generalize wx.drewN 1 = w5 at *
        refine wpAnyS_take (i := 0) (v := .pointer oq) rfl (by kernel_rfl) (fun _ _ _ h => h) ⟨c0, c1⟩ (Or.inl ⟨rfl, fun W' hW => by obtain ⟨q0, q1⟩ := hW; go_simp⟩) ?_
        refine wpAnyS_take (i := 1) (v := .slice (some ⟨g, o, none⟩) n' c') rfl (by kernel_rfl) (fun _ _ _ h => h) ⟨c0, c1⟩ (Or.inl ⟨rfl, fun W' hW => by obtain ⟨q0, q1⟩ := hW; go_simp⟩) ?_
        refine wpAnyS_take (i := 2) (v := .int .i64 (k : Int)) rfl (by kernel_rfl) (fun _ _ _ h => h) ⟨c0, c1⟩ (Or.inl ⟨rfl, fun W' hW => by obtain ⟨q0, q1⟩ := hW; go_simp⟩) ?_
        refine wpAnyS_take (i := 3) (v := .pointer (some ⟨g, o + k * 2, none⟩)) rfl (by kernel_rfl) (fun _ _ _ h => h) ⟨c0, c1⟩ (Or.inl ⟨rfl, fun W' hW => by obtain ⟨q0, q1⟩ := hW; go_simp⟩) ?_
        refine wpAnyS_take (i := 4) (v := .pointer (some ⟨g, o + k * 2, none⟩)) rfl (by kernel_rfl) (fun _ _ _ h => h) ⟨c0, c1⟩ (Or.inl ⟨rfl, fun W' hW => by obtain ⟨q0, q1⟩ := hW; go_simp⟩) ?_
        refine wpAnyS_take (i := 5) (v := .string KX) rfl (by kernel_rfl) (fun _ _ _ h => h) ⟨c0, c1⟩ (Or.inl ⟨rfl, fun W' hW => by obtain ⟨q0, q1⟩ := hW; go_simp⟩) ?_
        refine wpAnyS_take (i := 6) (v := .slice (some ⟨g, o, none⟩) n' c') rfl (by kernel_rfl) (fun _ _ _ h => h) ⟨c0, c1⟩ (Or.inl ⟨rfl, fun W' hW => by obtain ⟨q0, q1⟩ := hW; go_simp⟩) ?_
        refine wpAnyS_take (i := 7) (v := .int .i64 (k : Int)) rfl (by kernel_rfl) (fun _ _ _ h => h) ⟨c0, c1⟩ (Or.inl ⟨rfl, fun W' hW => by obtain ⟨q0, q1⟩ := hW; go_simp⟩) ?_
        refine wpAnyS_take (i := 8) (v := .pointer (some ⟨g, o + k * 2, none⟩)) rfl (by kernel_rfl) (fun _ _ _ h => h) ⟨c0, c1⟩ (Or.inl ⟨rfl, fun W' hW => by obtain ⟨q0, q1⟩ := hW; go_simp⟩) ?_
        refine wpAnyS_take (i := 9) (v := .pointer (some ⟨g, o + k * 2 + 1, none⟩)) rfl (by kernel_rfl) (fun _ _ _ h => h) ⟨c0, c1⟩ (Or.inl ⟨rfl, fun W' hW => by obtain ⟨q0, q1⟩ := hW; go_simp⟩) ?_
        refine wpAnyS_take (i := 10) (v := .slice eA en ec) rfl (by kernel_rfl) (fun _ _ _ h => h) ⟨c0, c1⟩ (Or.inl ⟨rfl, fun W' hW => by obtain ⟨q0, q1⟩ := hW; go_simp⟩) ?_
        refine wpAnyS_step 11 rfl (by decide +kernel) ?_
        go_wp2_with fail
        refine (HT.out _ hp hxs (Tab.below ht hbw)).mono ?_
        rintro e6 w6 ⟨u6, rfl, hu, hb6⟩
        obtain ⟨uq, rfl⟩ := hu.ptr
        have c0 := cell_below hb6 c0
        have c1 := cell_below hb6 c1
        have hsg := hsg.below hb6
        have hbn := Below.next' hbn hb6 hbn.size
        clear hb6 HT hp hxs hbw
        go_wp2_with fail
        refine ⟨.inr ⟨c0, c1⟩, ?_⟩
        refine wpAnyS_step 12 rfl (by decide +kernel) ?_
        go_wp2_with fail
        refine ⟨.inl rfl, ?_⟩
        refine wpAnyS_done (by decide +kernel) (NoPanic.normal ?_)
        clear c0 c1
        have hwk : IntKind.i64.wrap ((k : Int) + 1) = (k : Int) + 1 := IntWalk.i64_in _ (by omega)
        go_wp2
        rename World => wy
        refine wp_region_noPanic (wp_region_tills (fun _ => True) (fun j => decide (9 ≤ j)) (by kernel_rfl) ?_)
        have hD := belD wy 1
        have hsg := hsg.below hD
        have hu := hu.below hD
        have hbn := Below.next' hbn hD hbn.size
        change wpAnyS _ _ _ _ _ _ 10 _ _ (wy.drewN 1)
        clear hD
        generalize wy.drewN 1 = w8 at *
        have hs1 := hsg.upto k (by omega)
        have hs2 := hsg.from_ (k + 1) c' (by omega) hnc'
        obtain ⟨A2, hA2⟩ : ∃ A2, (if c' = k + 1 then some (⟨g, o, none⟩ : Addr) else some ⟨g, o + (k + 1) * itLay.z, none⟩) = A2 := ⟨_, rfl⟩
        rw [hA2] at hs2
        have hA2 : (if c' = k + 1 then some (⟨g, o, none⟩ : Addr) else some ⟨g, o + (k + 1) * 2, none⟩) = A2 := hA2
        have hck1 : ¬ c' < k := by omega
        have hck2 : ¬ ((c' : Int) < (k : Int)) := by omega
        have hnk1 : ¬ ((n' : Int) < (k : Int) + 1) := by omega
        have hk01 : (0 : Int) ≤ (k : Int) + 1 := by omega
        refine wpAnyS_take (i := 0) (v := .slice (some ⟨g, o, none⟩) n' c') rfl (by kernel_rfl) (fun _ _ _ h => h) trivial (Or.inl ⟨rfl, fun W' _ => by go_simp⟩) ?_
        refine wpAnyS_take (i := 1) (v := .int .i64 (k : Int)) rfl (by kernel_rfl) (fun _ _ _ h => h) trivial (Or.inl ⟨rfl, fun W' _ => by go_simp⟩) ?_
        refine wpAnyS_take (i := 2) (v := .slice (some ⟨g, o, none⟩) k c') rfl (by kernel_rfl) (fun _ _ _ h => h) trivial (Or.inl ⟨rfl, fun W' _ => by go_simp⟩) ?_
        refine wpAnyS_take (i := 4) (v := .slice (some ⟨g, o, none⟩) n' c') rfl (by kernel_rfl) (fun _ _ _ h => h) trivial (Or.inl ⟨rfl, fun W' _ => by go_simp⟩) ?_
        refine wpAnyS_take (i := 5) (v := .int .i64 (k : Int)) rfl (by kernel_rfl) (fun _ _ _ h => h) trivial (Or.inl ⟨rfl, fun W' _ => by go_simp⟩) ?_
        refine wpAnyS_take (i := 6) (v := .int .i64 ((k : Int) + 1)) rfl (by kernel_rfl) (fun _ _ _ h => h) trivial (Or.inl ⟨rfl, fun W' _ => by go_simp⟩) ?_
        refine wpAnyS_take (i := 7) (v := .slice A2 (n' - (k + 1)) (c' - (k + 1))) rfl (by kernel_rfl) (fun _ _ _ h => h) trivial (Or.inl ⟨rfl, fun W' _ => by go_simp⟩) ?_
        refine wpAnyS_step 3 rfl (by decide +kernel) ?_
        refine wpList_append_G _ rfl (.const (.slice none 0 0)) (.tmp 57) _ _ _ _ itT rfl w8.heap.size (.slice none 0 0) [] rfl (OwnG.nil _ _ _) (some ⟨g, o, none⟩) k c' (S'.take k) (by go_simp) hs1 (by rw [List.length_nil]; omega) (Nat.le_refl _) ?_
        intro v9 w9 hv9 hg9 hat9
        have hb9 := below_grownG (Below.refl w8.heap.size w8) (OwnG.nil (Y := itLay) w8 w8.heap.size 43) hg9 (Nat.le_refl _) (Nat.le_refl _)
        rw [List.nil_append] at hv9
        have hs2 := hs2.below hb9
        have hz9 := hb9.size
        obtain ⟨A9, c9, hve, _, _, _⟩ := hv9.forms
        have hl9 : (S'.take k).length = k := List.length_take_of_le (by rw [hsz]; exact Nat.le_of_lt hkn)
        rw [hl9] at hve
        subst hve
        clear hg9 hat9 hs1
        go_wp2_with fail
        refine wpAnyS_step 8 rfl (by decide +kernel) ?_
        refine wpList_append_G _ rfl (.tmp 58) (.tmp 62) _ _ _ _ itT rfl w8.heap.size (.slice A9 k c9) (S'.take k) (by go_simp) hv9 A2 (n' - (k + 1)) (c' - (k + 1)) (S'.drop (k + 1)) (by go_simp) hs2 (by rw [hl9]; omega) hz9 ?_
        intro v10 w10 hv10 hg10 hat10
        have hb10 := below_grownG hb9 hv9 hg10 (Nat.le_refl _) hz9
        obtain ⟨A10, c10, rfl, hs10, hn10, hc10⟩ := hv10.forms
        have hu := hu.below hb10
        have hbn := Below.next' hbn hb10 hbn.size
        have hl10 : (S'.take k ++ S'.drop (k + 1)).length = n' - 1 := by rw [List.length_append, hl9, List.length_drop, hsz]; clear hm1 hm2; omega
        rw [hl10] at hs10 hn10 ⊢
        clear hv10 hg10 hat10 hv9 hs2 hb9 hb10 hsg
        go_wp2_with fail
        refine ⟨.inr trivial, ?_⟩
        refine wpAnyS_step 9 rfl (by decide +kernel) ?_
        go_wp2_with fail
        first | refine wpAnyS_done (by decide +kernel) (NoPanic.normal ?_) | refine ⟨.inl rfl, wpAnyS_done (by decide +kernel) (NoPanic.normal ?_)⟩
        go_wp2
        go_roundw
        case rel =>
          refine ⟨i + 1, R.take k ++ R.drop (k + 1), S'.take k ++ S'.drop (k + 1), putI Q xu xl, A10, n' - 1, c10, by omega, by go_num, rfl, hs10, HSI.out, HSTEP.out.1, HSTEP.out.2.1, HSTEP.out.2.2.1, HSTEP.out.2.2.2, hu, hn10, hc10, hbn⟩
        case measure => simp [sliceLen]; omega
      · have dit : decide ((i : Int) < (nt : Int)) = false := decide_eq_false (by omega)
        have hn0 : ¬ n' = 0 := by omega
        have hn0i : ¬ (n' : Int) = 0 := by omega
        obtain ⟨g, o, hA, hc⟩ := hsg.at_ hpos
        subst hA
        have h1 : 0 < S'.length := by rw [hsg.1]; exact hpos
        have h2 : 0 < R.length := by rw [← hsi.len]; exact h1
        have hit := ItsAt.at_ hsi 0 h1 h2
        have hmx := hRm _ (List.getElem_mem h2)
        obtain ⟨s, hs⟩ : ∃ s, S'[0]'h1 = s := ⟨_, rfl⟩
        obtain ⟨x, hx⟩ : ∃ x, R[0]'h2 = x := ⟨_, rfl⟩
        have c0 := hc 0 (.string s.s) (by rw [hs]; rfl)
        have c1 := hc 1 (.slice s.A s.n s.c) (by rw [hs]; rfl)
        have HSTEP := Lib.hid (order_step HM.out hQ hQm hRm hall h2)
        rw [hs, hx] at hit
        rw [hx] at hmx HSTEP
        have hxd := HM.out.2 x hmx
        have hxr := HRW.out x hmx
        obtain ⟨hxk, hxs, hxn, hxc⟩ := hit
        rw [show itLay.z = 2 from rfl] at c0 c1
        simp only [Nat.zero_mul, Nat.add_zero] at c0 c1
        rw [hxk] at c0
        have hxs := hxs.below hbn
        have HSI := Lib.hid (its_cut hsi 0)
        have hRl := hsi.len
        obtain ⟨xu, xl⟩ := x
        obtain ⟨es, eA, en, ec⟩ := s
        dsimp only at c0 c1 hxd hxr hxs HSTEP
        have hen := hxs.1
        have HT := Lib.hid (fun W (h1 : TreeAt W (tree 256 Q 0) (.pointer oq)) (h2 : Seg W eA en xl) (h3 : Tab W) => tput_any Q xu xl _ eA en ec W hQ hxd h1 h2 (by omega) h3)
        obtain ⟨KX, hKX⟩ : ∃ KX, keyOf xu = KX := ⟨_, rfl⟩
        rw [hKX] at c0 HT
        have hsz := hsg.1
        clear hc hs hx hmx hxk hKX hsi hQ hQm hRm hall hen hxn hxc
        go_wp2
        rename World => wx
        refine wp_region_noPanic (wp_region_tills (fun W' => W'.cell? ⟨g, o, none⟩ = some (.string KX) ∧ W'.cell? ⟨g, o + 1, none⟩ = some (.slice eA en ec)) (fun j => decide (12 ≤ j)) (by kernel_rfl) ?_)
        have hD := belD wx 1
        have c0 := cell_below hD c0
        have c1 := cell_below hD c1
        have hp := hp.below hD
        have hxs := hxs.below hD
        have hsg := hsg.below hD
        have hbn := Below.next' hbn hD hbn.size
        have hbw := Below.next' hb hbn hb.size
        change wpAnyS _ _ _ _ _ _ 13 _ _ (wx.drewN 1)
        clear hD
        generalize wx.drewN 1 = w5 at *
        refine wpAnyS_take (i := 0) (v := .pointer oq) rfl (by kernel_rfl) (fun _ _ _ h => h) ⟨c0, c1⟩ (Or.inl ⟨rfl, fun W' hW => by obtain ⟨q0, q1⟩ := hW; go_simp⟩) ?_
        refine wpAnyS_take (i := 1) (v := .slice (some ⟨g, o, none⟩) n' c') rfl (by kernel_rfl) (fun _ _ _ h => h) ⟨c0, c1⟩ (Or.inl ⟨rfl, fun W' hW => by obtain ⟨q0, q1⟩ := hW; go_simp⟩) ?_
        refine wpAnyS_take (i := 2) (v := .int .i64 0) rfl (by kernel_rfl) (fun _ _ _ h => h) ⟨c0, c1⟩ (Or.inl ⟨rfl, fun W' hW => by obtain ⟨q0, q1⟩ := hW; go_simp⟩) ?_
        refine wpAnyS_take (i := 3) (v := .pointer (some ⟨g, o, none⟩)) rfl (by kernel_rfl) (fun _ _ _ h => h) ⟨c0, c1⟩ (Or.inl ⟨rfl, fun W' hW => by obtain ⟨q0, q1⟩ := hW; go_simp⟩) ?_
        refine wpAnyS_take (i := 4) (v := .pointer (some ⟨g, o, none⟩)) rfl (by kernel_rfl) (fun _ _ _ h => h) ⟨c0, c1⟩ (Or.inl ⟨rfl, fun W' hW => by obtain ⟨q0, q1⟩ := hW; go_simp⟩) ?_
        refine wpAnyS_take (i := 5) (v := .string KX) rfl (by kernel_rfl) (fun _ _ _ h => h) ⟨c0, c1⟩ (Or.inl ⟨rfl, fun W' hW => by obtain ⟨q0, q1⟩ := hW; go_simp⟩) ?_
        refine wpAnyS_take (i := 6) (v := .slice (some ⟨g, o, none⟩) n' c') rfl (by kernel_rfl) (fun _ _ _ h => h) ⟨c0, c1⟩ (Or.inl ⟨rfl, fun W' hW => by obtain ⟨q0, q1⟩ := hW; go_simp⟩) ?_
        refine wpAnyS_take (i := 7) (v := .int .i64 0) rfl (by kernel_rfl) (fun _ _ _ h => h) ⟨c0, c1⟩ (Or.inl ⟨rfl, fun W' hW => by obtain ⟨q0, q1⟩ := hW; go_simp⟩) ?_
        refine wpAnyS_take (i := 8) (v := .pointer (some ⟨g, o, none⟩)) rfl (by kernel_rfl) (fun _ _ _ h => h) ⟨c0, c1⟩ (Or.inl ⟨rfl, fun W' hW => by obtain ⟨q0, q1⟩ := hW; go_simp⟩) ?_
        refine wpAnyS_take (i := 9) (v := .pointer (some ⟨g, o + 1, none⟩)) rfl (by kernel_rfl) (fun _ _ _ h => h) ⟨c0, c1⟩ (Or.inl ⟨rfl, fun W' hW => by obtain ⟨q0, q1⟩ := hW; go_simp⟩) ?_
        refine wpAnyS_take (i := 10) (v := .slice eA en ec) rfl (by kernel_rfl) (fun _ _ _ h => h) ⟨c0, c1⟩ (Or.inl ⟨rfl, fun W' hW => by obtain ⟨q0, q1⟩ := hW; go_simp⟩) ?_
        refine wpAnyS_step 11 rfl (by decide +kernel) ?_
        go_wp2_with fail
        refine (HT.out _ hp hxs (Tab.below ht hbw)).mono ?_
        rintro e6 w6 ⟨u6, rfl, hu, hb6⟩
        obtain ⟨uq, rfl⟩ := hu.ptr
        have c0 := cell_below hb6 c0
        have c1 := cell_below hb6 c1
        have hsg := hsg.below hb6
        have hbn := Below.next' hbn hb6 hbn.size
        clear hb6 HT hp hxs hbw
        go_wp2_with fail
        refine ⟨.inr ⟨c0, c1⟩, ?_⟩
        refine wpAnyS_step 12 rfl (by decide +kernel) ?_
        go_wp2_with fail
        refine ⟨.inl rfl, ?_⟩
        refine wpAnyS_done (by decide +kernel) (NoPanic.normal ?_)
        clear c0 c1
        have hwk : IntKind.i64.wrap 1 = 1 := IntWalk.i64_in _ (by omega)
        go_wp2
        rename World => wy
        refine wp_region_noPanic (wp_region_tills (fun _ => True) (fun j => decide (9 ≤ j)) (by kernel_rfl) ?_)
        have hD := belD wy 1
        have hsg := hsg.below hD
        have hu := hu.below hD
        have hbn := Below.next' hbn hD hbn.size
        change wpAnyS _ _ _ _ _ _ 10 _ _ (wy.drewN 1)
        clear hD
        generalize wy.drewN 1 = w8 at *
        have hs1 := hsg.upto 0 (by omega)
        have hs2 := hsg.from_ 1 c' (by omega) hnc'
        obtain ⟨A2, hA2⟩ : ∃ A2, (if c' = 1 then some (⟨g, o, none⟩ : Addr) else some ⟨g, o + 1 * itLay.z, none⟩) = A2 := ⟨_, rfl⟩
        rw [hA2] at hs2
        have hA2 : (if c' = 1 then some (⟨g, o, none⟩ : Addr) else some ⟨g, o + 2, none⟩) = A2 := hA2
        have hnk1 : ¬ ((n' : Int) < 1) := by omega
        have hk01 : (0 : Int) ≤ 1 := by omega
        refine wpAnyS_take (i := 0) (v := .slice (some ⟨g, o, none⟩) n' c') rfl (by kernel_rfl) (fun _ _ _ h => h) trivial (Or.inl ⟨rfl, fun W' _ => by go_simp⟩) ?_
        refine wpAnyS_take (i := 1) (v := .int .i64 0) rfl (by kernel_rfl) (fun _ _ _ h => h) trivial (Or.inl ⟨rfl, fun W' _ => by go_simp⟩) ?_
        refine wpAnyS_take (i := 2) (v := .slice (some ⟨g, o, none⟩) 0 c') rfl (by kernel_rfl) (fun _ _ _ h => h) trivial (Or.inl ⟨rfl, fun W' _ => by go_simp⟩) ?_
        refine wpAnyS_take (i := 4) (v := .slice (some ⟨g, o, none⟩) n' c') rfl (by kernel_rfl) (fun _ _ _ h => h) trivial (Or.inl ⟨rfl, fun W' _ => by go_simp⟩) ?_
        refine wpAnyS_take (i := 5) (v := .int .i64 0) rfl (by kernel_rfl) (fun _ _ _ h => h) trivial (Or.inl ⟨rfl, fun W' _ => by go_simp⟩) ?_
        refine wpAnyS_take (i := 6) (v := .int .i64 1) rfl (by kernel_rfl) (fun _ _ _ h => h) trivial (Or.inl ⟨rfl, fun W' _ => by go_simp⟩) ?_
        refine wpAnyS_take (i := 7) (v := .slice A2 (n' - 1) (c' - 1)) rfl (by kernel_rfl) (fun _ _ _ h => h) trivial (Or.inl ⟨rfl, fun W' _ => by go_simp⟩) ?_
        refine wpAnyS_step 3 rfl (by decide +kernel) ?_
        refine wpList_append_G _ rfl (.const (.slice none 0 0)) (.tmp 57) _ _ _ _ itT rfl w8.heap.size (.slice none 0 0) [] rfl (OwnG.nil _ _ _) (some ⟨g, o, none⟩) 0 c' (S'.take 0) (by go_simp) hs1 (by rw [List.length_nil]; omega) (Nat.le_refl _) ?_
        intro v9 w9 hv9 hg9 hat9
        have hb9 := below_grownG (Below.refl w8.heap.size w8) (OwnG.nil (Y := itLay) w8 w8.heap.size 43) hg9 (Nat.le_refl _) (Nat.le_refl _)
        rw [List.nil_append] at hv9
        have hs2 := hs2.below hb9
        have hz9 := hb9.size
        obtain ⟨A9, c9, hve, _, _, _⟩ := hv9.forms
        have hl9 : (S'.take 0).length = 0 := rfl
        rw [hl9] at hve
        subst hve
        clear hg9 hat9 hs1
        go_wp2_with fail
        refine wpAnyS_step 8 rfl (by decide +kernel) ?_
        refine wpList_append_G _ rfl (.tmp 58) (.tmp 62) _ _ _ _ itT rfl w8.heap.size (.slice A9 0 c9) (S'.take 0) (by go_simp) hv9 A2 (n' - 1) (c' - 1) (S'.drop 1) (by go_simp) hs2 (by rw [hl9]; omega) hz9 ?_
        intro v10 w10 hv10 hg10 hat10
        have hb10 := below_grownG hb9 hv9 hg10 (Nat.le_refl _) hz9
        obtain ⟨A10, c10, rfl, hs10, hn10, hc10⟩ := hv10.forms
        have hu := hu.below hb10
        have hbn := Below.next' hbn hb10 hbn.size
        have hl10 : (S'.take 0 ++ S'.drop 1).length = n' - 1 := by rw [List.length_append, hl9, List.length_drop, hsz]; omega
        rw [hl10] at hs10 hn10 ⊢
        clear hv10 hg10 hat10 hv9 hs2 hb9 hb10 hsg
        go_wp2_with fail
        refine ⟨.inr trivial, ?_⟩
        refine wpAnyS_step 9 rfl (by decide +kernel) ?_
        go_wp2_with fail
        first | refine wpAnyS_done (by decide +kernel) (NoPanic.normal ?_) | refine ⟨.inl rfl, wpAnyS_done (by decide +kernel) (NoPanic.normal ?_)⟩
        go_wp2
        go_roundw
        case rel =>
          refine ⟨i + 1, R.take 0 ++ R.drop 1, S'.take 0 ++ S'.drop 1, putI Q xu xl, A10, n' - 1, c10, by omega, by go_num, rfl, hs10, HSI.out, HSTEP.out.1, HSTEP.out.2.1, HSTEP.out.2.2.1, HSTEP.out.2.2.2, hu, hn10, hc10, hbn⟩
        case measure => simp [sliceLen]; omega
    · obtain rfl : n' = 0 := by omega
      have hR0 : R = [] := List.eq_nil_of_length_eq_zero (by rw [← hsi.len, hsg.1])
      subst hR0
      have hQe : Q = m := asc_ext hQ.1 HM.out.1 fun x => ⟨hQm x, fun hx => (hall x hx).resolve_right (by simp)⟩
      subst hQe
      have hTO := fun W (h : Below wl.heap.size wl W) => tdig_any _ _ W (hp.below h) (Tab.below ht (Below.next' (Below.next' hb hbn hb.size) h (Below.next' hb hbn hb.size).size))
      have hLO := fun W (h : Below wl.heap.size wl W) => tlen_any _ _ W (hp.below h)
      have hKO := fun W (h : Below wl.heap.size wl W) => tkeys_any Q _ W HM.out (hp.below h)
      rw [HCNT.out] at hLO
      have hTN := HTD.out
      obtain ⟨X, hX⟩ : ∃ X : ByteArray, ⟨(tree 256 Q 0).dig.toArray⟩ = X := ⟨_, rfl⟩
      rw [hX] at hTO hTN
      have hXX : (X.toList == X.toList) = true := by simp
      have HTO := Lib.hid hTO
      have HLO := Lib.hid hLO
      have HKO := Lib.hid hKO
      have HTN := Lib.hid hTN
      obtain ⟨nm, hnm⟩ : ∃ nm, Q.length = nm := ⟨_, rfl⟩
      rw [hnm] at HLO HKO HLE HKE hml
      clear hTO hLO hKO hTN hX hp hsg hsi hQ hQm hRm hall HTD hnm
      go_wp2_with fail
      refine (HTO.out _ (Below.refl _ _)).mono ?_
      rintro e6 w6 ⟨rfl, hb6⟩
      have hbl := hb6
      have hbn := Below.next' hbn hb6 hbn.size
      clear hb6
      go_wp2_with fail
      refine (HTN.out _ hbn).mono ?_
      rintro e7 w7 ⟨rfl, hb7⟩
      have hbl := Below.next' hbl hb7 hbl.size
      have hbn := Below.next' hbn hb7 hbn.size
      clear hb7
      go_wp2_with fail
      refine (HLO.out _ hbl).mono ?_
      rintro e8 w8 ⟨rfl, rfl⟩
      go_wp2_with fail
      refine (HLE.out _ hbn).mono ?_
      rintro e9 w9 ⟨rfl, rfl⟩
      go_wp2_with fail
      refine (HKO.out _ hbl).mono ?_
      rintro e10 w10 ⟨A6, c6, rfl, hs6, hb10⟩
      have hbn := Below.next' hbn hb10 hbn.size
      clear hb10 hbl
      go_wp2_with fail
      refine (HKE.out _ hbn).mono ?_
      rintro e11 w11 ⟨A7, c7, rfl, hs7, hb11⟩
      have hs6 := hs6.below hb11
      have hbn := Below.next' hbn hb11 hbn.size
      clear hb11
      go_wp2_with fail
      refine (texts_any A6 A7 nm nm c6 c7 _ _ true _ hs6 hs7 (by omega) ⟨fun _ => rfl, fun _ => rfl⟩).mono ?_
      rintro e12 w12 ⟨rfl, u, rfl⟩
      have hbw := Below.drewN' (Below.next' hb hbn hb.size) u
      clear hs6 hs7 hbn
      go_wp2
      go_ret
      exact ⟨rfl, hbw⟩

set_option maxRecDepth 8000 in
set_option maxHeartbeats 4000000 in
theorem trieOrder_long (A : Option Addr) (n c : Nat) (L : List TAct) (B : Option Addr) (nt ct : Nat) (w : World) (ha : SegTA w A n L) (hnc : n ≤ c) (hcm : c ≤ maxLen) (hs : ¬ SmallA 40 L) (ht : Tab w) :
    Calls Tryd.prog 7 #[.slice A n c, .slice B nt ct] w fun e w' => e = .returned (.bool true) ∧ Below w.heap.size w w' := by
  have HSM := Lib.hid (fun W (h : Below w.heap.size w W) => small09_any A n c L false W (ha.below h) hcm hnc ⟨fun h => Bool.noConfusion h, fun h => absurd h hs⟩)
  clear ha hs
  go_enter Tryd.func7, Tryd.ntmps7
  go_wp2_with fail
  refine (back_any _ ht).mono ?_
  rintro e w1 ⟨rfl, hb1⟩
  go_wp2_with fail
  refine (HSM.out _ hb1).mono ?_
  rintro e w2 ⟨rfl, rfl⟩
  go_wp2_with fail
  refine (back_any _ (Tab.below ht hb1)).mono ?_
  rintro e w3 ⟨rfl, hb3⟩
  go_wp2
  go_ret
  exact ⟨rfl, Below.next' hb1 hb3 hb1.size⟩

theorem trieOrder_walk (A : Option Addr) (n c : Nat) (L : List TAct) (B : Option Addr) (nt ct : Nat) (tb : List UInt8) (w : World) (ha : SegTA w A n L) (hnc : n ≤ c) (hcm : c ≤ maxLen) (hb' : Seg w B nt tb) (hpd : nt ≤ ct) (hdm : ct ≤ maxLen) (ht : Tab w) :
    Calls Tryd.prog 7 #[.slice A n c, .slice B nt ct] w fun e w' => e = .returned (.bool true) ∧ Below w.heap.size w w' := by
  by_cases h : SmallA 40 L
  · exact trieOrder_core A n c L B nt ct tb w ha hnc hcm hb' hpd hdm h ht
  · exact trieOrder_long A n c L B nt ct w ha hnc hcm h ht

end Go.Proofs.YtpbjianhkjjgkaaDoor
