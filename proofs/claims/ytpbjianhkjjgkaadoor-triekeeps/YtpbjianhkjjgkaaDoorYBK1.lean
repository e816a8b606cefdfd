/-
  The keys of a tree, in the order of their sums, and sorted: plain facts; the walks of gather and of both Keys.
-/
import Derived.Test.YtpbjianhkjjgkaaDoorYSRT
import Derived.Test.YtpbjianhkjjgkaaDoorZ16
import Derived.Test.YtpbjianhkjjgkaaDoorZ17
import Derived.Test.YtpbjianhkjjgkaaDoorZ06
import Derived.Test.YtpbjianhkjjgkaaDoorZ14
import Derived.Test.YtpbjianhkjjgkaaDoorZ21
import Derived.Sort.OwnSorted
namespace Go.Proofs.YtpbjianhkjjgkaaDoor
open Go.RowKit Go.Sort

theorem key_le {u v : Nat} (hu : u < 280) (hv : v < 280) (h : u < v) : keyB u ≤ keyB v := by
  unfold keyB
  split <;> split <;> simp only [List.cons_le_cons_iff, List.le_refl, and_true, UInt8.lt_iff_toNat_lt, ← UInt8.toNat_inj, UInt8.toNat_ofNat', UInt8.reduceToNat, Nat.lt_irrefl, false_or, true_and] <;> omega
theorem sorted_perm {l r : List (List UInt8)} (h : l.Perm r) (hs : r.Pairwise (fun a b => a ≤ b)) : (l.mergeSort fun x y => decide (x ≤ y)) = r := by
  have tr : ∀ a b c : List UInt8, decide (a ≤ b) = true → decide (b ≤ c) = true → decide (a ≤ c) = true := fun a b c h1 h2 => by simp only [decide_eq_true_eq] at *; exact List.le_trans h1 h2
  have tot : ∀ a b : List UInt8, (decide (a ≤ b) || decide (b ≤ a)) = true := fun a b => by simp only [Bool.or_eq_true, decide_eq_true_eq]; exact List.le_total a b
  refine List.Perm.eq_of_pairwise (le := fun a b => decide (a ≤ b) = true) (fun a b _ _ h1 h2 => ?_) (List.pairwise_mergeSort tr tot l) (hs.imp fun h => decide_eq_true h) ((List.mergeSort_perm l _).trans h)
  simp only [decide_eq_true_eq] at h1 h2
  exact List.le_antisymm h1 h2
def Tr.keysT : Tr → List Nat
  | .nil => []
  | .leaf u _ => [u]
  | .node a b _ => a.keysT ++ b.keysT
theorem half_perm (m : List It) (d : Nat) : (halfI m d 0 ++ halfI m d 1).Perm m := by
  have e : halfI m d 1 = m.filter (fun x => !decide (bitU x.1 d = 0)) := by
    unfold halfI
    refine List.filter_congr fun x _ => ?_
    rcases bitU_01 x.1 d with h | h
    · rw [h]; rfl
    · rw [h]; rfl
  rw [e]
  exact List.filter_append_perm _ m
theorem keysT_perm : ∀ (f : Nat) (m : List It) (d : Nat), d + f = 256 → Good m d → (tree f m d).keysT.Perm (m.map (·.1)) := by
  intro f
  induction f with
  | zero =>
    intro m d hd h
    rcases m with _ | ⟨x, _ | ⟨y, m⟩⟩
    · exact List.Perm.refl _
    · exact List.Perm.refl _
    · have := h.room (by simp)
      omega
  | succ f ih =>
    intro m d hd h
    by_cases h2 : 2 ≤ m.length
    · rw [tree_two h2]
      show ((tree f _ _).keysT ++ (tree f _ _).keysT).Perm _
      refine ((ih _ _ (by omega) (h.half 0)).append (ih _ _ (by omega) (h.half 1))).trans ?_
      rw [← List.map_append]
      exact (half_perm m d).map _
    · rcases m with _ | ⟨x, _ | ⟨y, m⟩⟩
      · exact List.Perm.refl _
      · rw [tree_one]
        exact List.Perm.refl _
      · simp at h2
theorem keysT_len (t : Tr) : t.keysT.length = t.cnt := by
  induction t with
  | nil => rfl
  | leaf => rfl
  | node a b d ha hb =>
    show (a.keysT ++ b.keysT).length = a.cnt + b.cnt
    rw [List.length_append, ha, hb]
def kL (u : Nat) : ByteArray := keyOf u
/-- Sorted, they are the items' keys. -/
theorem keys_sorted {m : List It} (hm : Its m) : (((tree 256 m 0).keysT.map keyB).mergeSort fun x y => decide (x ≤ y)) = m.map fun x => keyB x.1 := by
  have hg := Good.root hm.1 hm.2
  have hp := (keysT_perm 256 m 0 rfl hg).map keyB
  rw [List.map_map] at hp
  refine sorted_perm hp ?_
  rw [List.pairwise_map]
  refine (hm.1.imp_of_mem fun {x y} hx hy h => ?_)
  exact key_le (hm.2 x hx) (hm.2 y hy) h
theorem strCells (l : List ByteArray) : cellsG strLay l = l.map Value.string := by
  induction l with
  | nil => rfl
  | cons x l ih => rw [cellsG_cons, ih]; rfl

set_option maxRecDepth 8000 in
set_option maxHeartbeats 16000000 in
theorem gather_any (w0 : World) : ∀ (t : Tr) (v s : Value) (l : List ByteArray) (base : Nat) (w : World), TreeAt w0 t v → Below w0.heap.size w0 w → OwnS w base 9 s l → w0.heap.size ≤ base → base ≤ w.heap.size → l.length + t.cnt ≤ 100000 →
    Calls Tryd.prog 68 #[v, s] w fun e w' => ∃ s', e = .returned s' ∧ OwnS w' base 9 s' (l ++ t.keysT.map keyOf) ∧ Below base w w' := by
  intro t
  induction t with
  | nil =>
    intro v s l base w hv hb ho h1 h2 hl
    have e : v = .pointer none := hv
    subst e
    refine (gather_nil s w).mono ?_
    rintro e w' ⟨rfl, rfl⟩
    refine ⟨s, rfl, ?_, Below.refl _ _⟩
    rw [show l ++ Tr.nil.keysT.map keyOf = l from List.append_nil l]
    exact ho
  | leaf u r =>
    intro v s l base w hv hb ho h1 h2 hl
    have hlen := tlen_any _ _ _ (hv.below hb)
    obtain ⟨g, A, c, rfl, c0, _⟩ := hv
    have c0 := cell_below hb c0
    obtain ⟨As, cs, rfl, _, _, _⟩ := ho.forms
    have HLEN := Lib.hid (show Calls Tryd.prog 25 #[.pointer (some ⟨g, 0, none⟩)] w (fun e w' => e = .returned (.int .i64 1) ∧ w' = w) from hlen)
    have hl2 : l.length + 1 ≤ 100000 := hl
    have hke : (Tr.leaf u r).keysT.map keyOf = [keyOf u] := rfl
    rw [hke]
    obtain ⟨K, hK⟩ : ∃ K, keyOf u = K := ⟨_, rfl⟩
    rw [hK] at c0 ⊢
    obtain ⟨q, hq⟩ : ∃ q, l.length = q := ⟨_, rfl⟩
    rw [hq] at ho hl2 ⊢
    have HO := Lib.hid (ho.alloc (.cells #[.string K] 9))
    clear hlen hK hke hb hl
    go_enter Tryd.func68, Tryd.ntmps68
    go_wp2_with fail
    refine HLEN.out.mono ?_
    rintro e w1 ⟨rfl, rfl⟩
    go_wp2_with (at_builtin
                 refine wpList_append_G _ rfl (.tmp 12) (.tmp 17) _ _ _ _ strT rfl base (.slice As q cs) l rfl HO.out _ 1 1 [K] rfl (SegG.newAt _ _ _ _ _ _ rfl rfl rfl) (by rw [hq]; omega) (by simp; omega) ?_
                 intro v4 w4 hv4 hg4 hat4)
    obtain ⟨A4, c4, hve, _, _, _⟩ := hv4.forms
    subst hve
    go_ret
    exact ⟨_, rfl, hv4, below_grownG ((Below.refl base _).alloc h2 _) HO.out hg4 (Nat.le_refl _) (by simp; omega)⟩
  | node a b d iha ihb =>
    intro v s l base w hv hb ho h1 h2 hl
    have hlen := tlen_any _ _ _ (hv.below hb)
    obtain ⟨g, pa, pb, rfl, c2, c3, c4, c5, c6, hcc, hta, htb⟩ := hv
    obtain ⟨qa, rfl⟩ := hta.ptr
    obtain ⟨qb, rfl⟩ := htb.ptr
    have hgb : g < base := by have : g < w0.heap.size := World.block_lt_of_cell? w0 _ c2; omega
    have c2 := cell_below hb c2
    have c3 := cell_below hb c3
    obtain ⟨As, cs, rfl, _, _, _⟩ := ho.forms
    have hc2 : 2 ≤ (Tr.node a b d).cnt := hcc
    obtain ⟨cn, hcn⟩ : ∃ cn, (Tr.node a b d).cnt = cn := ⟨_, rfl⟩
    rw [hcn] at hlen hc2
    have hab : a.cnt + b.cnt = cn := hcn
    rw [hcn] at hl
    have HLEN := Lib.hid hlen
    have d1 : ((cn : Int) == 0) = false := by simp; omega
    have d2 : ((cn : Int) == 1) = false := by simp; omega
    have hke : (Tr.node a b d).keysT.map keyOf = a.keysT.map keyOf ++ b.keysT.map keyOf := List.map_append ..
    rw [hke, ← List.append_assoc]
    have HA := Lib.hid (fun W (h3 : Below w0.heap.size w0 W) (h4 : OwnS W base 9 (.slice As l.length cs) l) (h5 : base ≤ W.heap.size) => iha (.pointer qa) _ l base W hta h3 h4 h1 h5 (by omega))
    have HB := Lib.hid (fun s W (h3 : Below w0.heap.size w0 W) (h4 : OwnS W base 9 s (l ++ a.keysT.map keyOf)) (h5 : base ≤ W.heap.size) => ihb (.pointer qb) s _ base W htb h3 h4 h1 h5 (by rw [List.length_append, List.length_map, keysT_len]; omega))
    clear hlen iha ihb hta htb hcn hke hab hcc c4 c5 c6
    go_enter Tryd.func68, Tryd.ntmps68
    go_wp2_with fail
    refine HLEN.out.mono ?_
    rintro e w1 ⟨rfl, rfl⟩
    go_wp2
    rename World => wx
    refine wp_region_noPanic (wp_region_tills (fun W' => W'.cell? ⟨g, 2, none⟩ = some (.pointer qa) ∧ W'.cell? ⟨g, 3, none⟩ = some (.pointer qb)) (fun j => decide (11 ≤ j)) (by kernel_rfl) ?_)
    have hD := Below.drewN' (Below.refl wx.heap.size wx) 1
    have c2 := cell_below hD c2
    have c3 := cell_below hD c3
    have ho := ho.drewN 1
    have hb := Below.next' hb hD hb.size
    have hbb := (Below.refl base wx).trans (hD.mono h2)
    have h2 : base ≤ (wx.drewN 1).heap.size := h2
    change wpAnyS _ _ _ _ _ _ 12 _ _ (wx.drewN 1)
    clear hD
    generalize wx.drewN 1 = w5 at *
    refine wpAnyS_take (i := 0) (v := .pointer (some ⟨g, 0, none⟩)) rfl (by kernel_rfl) (fun _ _ _ h => h) ⟨c2, c3⟩ (Or.inl ⟨rfl, fun W' hW => by obtain ⟨q0, q1⟩ := hW; go_simp⟩) ?_
    refine wpAnyS_take (i := 1) (v := .pointer (some ⟨g, 0, none⟩)) rfl (by kernel_rfl) (fun _ _ _ h => h) ⟨c2, c3⟩ (Or.inl ⟨rfl, fun W' hW => by obtain ⟨q0, q1⟩ := hW; go_simp⟩) ?_
    refine wpAnyS_take (i := 2) (v := .pointer (some ⟨g, 3, none⟩)) rfl (by kernel_rfl) (fun _ _ _ h => h) ⟨c2, c3⟩ (Or.inl ⟨rfl, fun W' hW => by obtain ⟨q0, q1⟩ := hW; go_simp⟩) ?_
    refine wpAnyS_take (i := 3) (v := .pointer qb) rfl (by kernel_rfl) (fun _ _ _ h => h) ⟨c2, c3⟩ (Or.inl ⟨rfl, fun W' hW => by obtain ⟨q0, q1⟩ := hW; go_simp⟩) ?_
    refine wpAnyS_take (i := 4) (v := .pointer (some ⟨g, 0, none⟩)) rfl (by kernel_rfl) (fun _ _ _ h => h) ⟨c2, c3⟩ (Or.inl ⟨rfl, fun W' hW => by obtain ⟨q0, q1⟩ := hW; go_simp⟩) ?_
    refine wpAnyS_take (i := 5) (v := .pointer (some ⟨g, 0, none⟩)) rfl (by kernel_rfl) (fun _ _ _ h => h) ⟨c2, c3⟩ (Or.inl ⟨rfl, fun W' hW => by obtain ⟨q0, q1⟩ := hW; go_simp⟩) ?_
    refine wpAnyS_take (i := 6) (v := .pointer (some ⟨g, 2, none⟩)) rfl (by kernel_rfl) (fun _ _ _ h => h) ⟨c2, c3⟩ (Or.inl ⟨rfl, fun W' hW => by obtain ⟨q0, q1⟩ := hW; go_simp⟩) ?_
    refine wpAnyS_take (i := 7) (v := .pointer qa) rfl (by kernel_rfl) (fun _ _ _ h => h) ⟨c2, c3⟩ (Or.inl ⟨rfl, fun W' hW => by obtain ⟨q0, q1⟩ := hW; go_simp⟩) ?_
    refine wpAnyS_take (i := 8) (v := .slice As l.length cs) rfl (by kernel_rfl) (fun _ _ _ h => h) ⟨c2, c3⟩ (Or.inl ⟨rfl, fun W' hW => by obtain ⟨q0, q1⟩ := hW; go_simp⟩) ?_
    refine wpAnyS_step 9 rfl (by decide +kernel) ?_
    go_wp2_with fail
    refine (HA.out _ hb ho h2).mono ?_
    rintro e w6 ⟨s6, rfl, ho6, hb6⟩
    obtain ⟨A6, d6, hse, _, _, _⟩ := ho6.forms
    obtain ⟨q6, hq6⟩ : ∃ q6, (l ++ a.keysT.map keyOf).length = q6 := ⟨_, rfl⟩
    rw [hq6] at hse
    subst hse
    have hb := hb.trans (hb6.mono h1)
    have h2 : base ≤ w6.heap.size := by have := hb6.size; omega
    have c2 := (hb6.cell (p := ⟨g, 2, none⟩) hgb).trans c2
    have c3 := (hb6.cell (p := ⟨g, 3, none⟩) hgb).trans c3
    have hbb := hbb.trans hb6
    clear hb6 ho HA hq6
    go_wp2_with fail
    refine ⟨.inr ⟨c2, c3⟩, ?_⟩
    refine wpAnyS_step 10 rfl (by decide +kernel) ?_
    go_wp2_with fail
    refine (HB.out _ _ hb ho6 h2).mono ?_
    rintro e w7 ⟨s7, rfl, ho7, hb7⟩
    obtain ⟨A7, d7, hse, _, _, _⟩ := ho7.forms
    obtain ⟨q7, hq7⟩ : ∃ q7, (l ++ a.keysT.map keyOf ++ b.keysT.map keyOf).length = q7 := ⟨_, rfl⟩
    rw [hq7] at hse
    subst hse
    have c2 := (hb7.cell (p := ⟨g, 2, none⟩) hgb).trans c2
    have c3 := (hb7.cell (p := ⟨g, 3, none⟩) hgb).trans c3
    have hbb := hbb.trans hb7
    clear hb7 HB ho6 hq7 hb h2
    go_wp2_with fail
    refine ⟨.inr ⟨c2, c3⟩, ?_⟩
    refine wpAnyS_step 11 rfl (by decide +kernel) ?_
    go_wp2_with fail
    refine ⟨.inl rfl, ?_⟩
    refine wpAnyS_done (by decide +kernel) (NoPanic.normal ?_)
    go_wp2
    go_ret
    exact ⟨_, rfl, ho7, hbb⟩

end Go.Proofs.YtpbjianhkjjgkaaDoor
