/-
  Texts of one claim, joined.
-/
import Derived.Test.YtpbjianhkjjgkaaDoorZ13
namespace Go.Proofs.YtpbjianhkjjgkaaDoor
open Go.RowKit

set_option maxHeartbeats 4000000 in
/-- Get of a text of which it is known which key it is, if it is one. -/
theorem tget_in (m : List It) (k : Nat) (l : List UInt8) (v : Value) (w : World) (hm : Its m) (hk : (k, l) ∈ m) (hv : TreeAt w (tree 256 m 0) v) (ht : Tab w) :
    Calls Tryd.prog 20 #[v, .string (keyOf k)] w fun e w' => ∃ u, e = .returned (.tuple #[u, .bool true]) ∧ Own w' w.heap.size 5 u l ∧ Below w.heap.size w w' := by
  have hks := keyOf_size k
  have hsu : (⟨(sha (keyOf k).data.toList).toArray⟩ : ByteArray) = sumOf k := by rw [keyOf_list]; rfl
  have hss := sumOf_size k
  have HSU := Lib.hid hsu
  have HKS := Lib.hid (hm.keys (hm.2 _ hk))
  have HIN := Lib.hid hk
  obtain ⟨p, rfl⟩ := hv.ptr
  clear hsu hk
  go_enter Tryd.func20, Tryd.ntmps20
  go_wp2_with fail
  refine (keySum_any (keyOf k) _ (by omega) ht).mono ?_
  rw [HSU.out]
  rintro e w2 ⟨rfl, hb2⟩
  have hv2 := hv.below hb2
  clear hv
  go_wp2_with fail
  refine (tfind_any m (keyOf k) k _ _ hm HKS.out hv2 (sumOf k) (by omega) (fun _ => rfl)).mono ?_
  rintro e w3 ⟨u, rfl, hu, rfl⟩
  obtain ⟨g, A, c, rfl, x0, x1, x4, x5, x6, hs, hl⟩ := hu.1 l HIN.out
  clear hu x0 x4 x5 x6 hv2
  go_wp2_with fail
  refine (clone_any A l.length c l _ hs (by omega)).mono ?_
  rintro e w4 ⟨v4, rfl, ho4, hb4⟩
  obtain ⟨A4, c4, rfl, _, _, _⟩ := ho4.forms
  go_wp2
  go_ret2
  exact ⟨_, rfl, ho4.mono hb2.size, Below.next' hb2 hb4 hb2.size⟩

set_option maxHeartbeats 4000000 in
/-- Get of a text that no item has. -/
theorem tget_out (m : List It) (K : ByteArray) (v : Value) (w : World) (hm : Its m) (hK : ∀ x ∈ m, keyOf x.1 ≠ K) (hKs : K.size ≤ 1000) (hv : TreeAt w (tree 256 m 0) v) (ht : Tab w) :
    Calls Tryd.prog 20 #[v, .string K] w fun e w' => e = .returned (.tuple #[.slice none 0 0, .bool false]) ∧ Below w.heap.size w w' := by
  have h999 : ∀ x ∈ m, x.1 ≠ 1000 := fun x hx => by have := hm.2 x hx; omega
  have HKS := Lib.hid (show ∀ x ∈ m, keyOf x.1 = K ↔ x.1 = 1000 from fun x hx => ⟨fun e => absurd e (hK x hx), fun e => absurd e (h999 x hx)⟩)
  have HNO := Lib.hid (show ∀ l, ((1000, l) : It) ∉ m from fun l hx => h999 _ hx rfl)
  obtain ⟨p, rfl⟩ := hv.ptr
  clear hK h999
  go_enter Tryd.func20, Tryd.ntmps20
  go_wp2_with fail
  refine (keySum_any K _ (by omega) ht).mono ?_
  rintro e w2 ⟨rfl, hb2⟩
  have hv2 := hv.below hb2
  have hss := sha_size K.data.toList
  obtain ⟨T, hT⟩ : ∃ T : ByteArray, ⟨(sha K.data.toList).toArray⟩ = T := ⟨_, rfl⟩
  rw [hT] at hss ⊢
  clear hv hT
  go_wp2_with fail
  refine (tfind_any m K 1000 _ _ hm HKS.out hv2 T (by omega) (fun ⟨l, hl⟩ => absurd hl (HNO.out l))).mono ?_
  rintro e w3 ⟨u, rfl, hu, rfl⟩
  have e := hu.2 HNO.out
  subst e
  clear hu hv2
  go_wp2
  go_ret2
  exact ⟨rfl, hb2⟩

set_option maxHeartbeats 4000000 in
theorem thalves_any (f : Nat) (m : List It) (d : Nat) (v : Value) (w : World) (hd : d + (f + 1) = 256) (hg : Good m d) (hv : TreeAt w (tree (f + 1) m d) v) (h2 : 2 ≤ m.length) :
    Calls Tryd.prog 33 #[v] w fun e w' => ∃ a b, e = .returned (.tuple #[a, b, .bool true]) ∧ TreeAt w' (tree f (halfI m d 0) (d + 1)) a ∧ TreeAt w' (tree f (halfI m d 1) (d + 1)) b ∧ Below w.heap.size w w' := by
  have hlen := tlen_any _ _ _ hv
  rw [tree_cnt (f + 1) m d hd hg] at hlen
  rw [tree_two h2] at hv
  obtain ⟨g, pa, pb, rfl, c2, c3, c4, c5, c6, hcc, ha, hb⟩ := hv
  obtain ⟨qa, rfl⟩ := ha.ptr
  obtain ⟨qb, rfl⟩ := hb.ptr
  have HAB := Lib.hid (And.intro ha hb)
  have HLEN := Lib.hid hlen
  clear hlen ha hb hcc c4 c5 c6 hg hd
  obtain ⟨n, hn⟩ : ∃ n, m.length = n := ⟨_, rfl⟩
  rw [hn] at HLEN h2
  have d1 : decide ((n : Int) < 2) = false := decide_eq_false (by omega)
  clear hn
  go_enter Tryd.func33, Tryd.ntmps33
  go_wp2_with fail
  refine HLEN.out.mono ?_
  rintro e w1 ⟨rfl, rfl⟩
  go_wp2
  rename World => w1x
  refine wp_region_noPanic (wp_region_tills (fun W' => W'.cell? ⟨g, 2, none⟩ = some (.pointer qa) ∧ W'.cell? ⟨g, 3, none⟩ = some (.pointer qb)) (fun j => decide (9 ≤ j)) (by kernel_rfl) ?_)
  have hD := Below.drewN' (Below.refl w1x.heap.size w1x) 1
  have x0 := cell_below hD c2
  have x1 := cell_below hD c3
  have hab := HAB.out
  have hxa := hab.1.below hD
  have hxb := hab.2.below hD
  change wpAnyS _ _ _ _ _ _ 11 _ _ (w1x.drewN 1)
  refine wpAnyS_take (i := 0) (v := .pointer (some ⟨g, 0, none⟩)) rfl (by kernel_rfl) (fun _ _ _ h => h) ⟨x0, x1⟩ (Or.inl ⟨rfl, fun W' hW => by obtain ⟨q0, q1⟩ := hW; go_simp⟩) ?_
  refine wpAnyS_take (i := 1) (v := .pointer (some ⟨g, 0, none⟩)) rfl (by kernel_rfl) (fun _ _ _ h => h) ⟨x0, x1⟩ (Or.inl ⟨rfl, fun W' hW => by obtain ⟨q0, q1⟩ := hW; go_simp⟩) ?_
  refine wpAnyS_take (i := 2) (v := .pointer (some ⟨g, 2, none⟩)) rfl (by kernel_rfl) (fun _ _ _ h => h) ⟨x0, x1⟩ (Or.inl ⟨rfl, fun W' hW => by obtain ⟨q0, q1⟩ := hW; go_simp⟩) ?_
  refine wpAnyS_take (i := 3) (v := .pointer qa) rfl (by kernel_rfl) (fun _ _ _ h => h) ⟨x0, x1⟩ (Or.inl ⟨rfl, fun W' hW => by obtain ⟨q0, q1⟩ := hW; go_simp⟩) ?_
  refine wpAnyS_take (i := 4) (v := .pointer (some ⟨g, 0, none⟩)) rfl (by kernel_rfl) (fun _ _ _ h => h) ⟨x0, x1⟩ (Or.inl ⟨rfl, fun W' hW => by obtain ⟨q0, q1⟩ := hW; go_simp⟩) ?_
  refine wpAnyS_take (i := 5) (v := .pointer (some ⟨g, 0, none⟩)) rfl (by kernel_rfl) (fun _ _ _ h => h) ⟨x0, x1⟩ (Or.inl ⟨rfl, fun W' hW => by obtain ⟨q0, q1⟩ := hW; go_simp⟩) ?_
  refine wpAnyS_take (i := 6) (v := .pointer (some ⟨g, 3, none⟩)) rfl (by kernel_rfl) (fun _ _ _ h => h) ⟨x0, x1⟩ (Or.inl ⟨rfl, fun W' hW => by obtain ⟨q0, q1⟩ := hW; go_simp⟩) ?_
  refine wpAnyS_take (i := 7) (v := .pointer qb) rfl (by kernel_rfl) (fun _ _ _ h => h) ⟨x0, x1⟩ (Or.inl ⟨rfl, fun W' hW => by obtain ⟨q0, q1⟩ := hW; go_simp⟩) ?_
  refine wpAnyS_take (i := 8) (v := .pointer qa) rfl (by kernel_rfl) (fun _ _ _ h => h) ⟨x0, x1⟩ (Or.inl ⟨rfl, fun W' hW => by obtain ⟨q0, q1⟩ := hW; go_simp⟩) ?_
  refine wpAnyS_step 9 rfl (by decide +kernel) ?_
  go_wp2_with fail
  refine ⟨.inl rfl, ?_⟩
  refine wpAnyS_step 10 rfl (by decide +kernel) ?_
  go_wp2_with fail
  refine ⟨.inl rfl, ?_⟩
  refine wpAnyS_done (by decide +kernel) (NoPanic.normal ?_)
  go_wp2
  go_ret3
  exact ⟨_, _, rfl, hxa, hxb, hD⟩

end Go.Proofs.YtpbjianhkjjgkaaDoor

namespace Go.Proofs.YtpbjianhkjjgkaaDoor
open Go.RowKit

set_option maxHeartbeats 4000000 in
theorem tleaf_any (u : Nat) (l : List UInt8) (v : Value) (w : World) (hv : TreeAt w (.leaf u l) v) :
    Calls Tryd.prog 34 #[v] w fun e w' => ∃ r, e = .returned (.tuple #[.string (keyOf u), r, .bool true]) ∧ Own w' w.heap.size 5 r l ∧ Below w.heap.size w w' := by
  have hlen := tlen_any _ _ _ hv
  obtain ⟨g, A0, c0, rfl, h0, h1, h4, h5, h6, hs0, hl⟩ := hv
  obtain ⟨n0, hn0⟩ : ∃ n0, l.length = n0 := ⟨_, rfl⟩
  obtain ⟨k, hk⟩ : ∃ k, keyOf u = k := ⟨_, rfl⟩
  rw [hn0] at hs0 h1 hl
  rw [hk] at h0
  rw [hk]
  have HLEN := Lib.hid (show Calls Tryd.prog 25 #[.pointer (some ⟨g, 0, none⟩)] w (fun e w' => e = .returned (.int .i64 1) ∧ w' = w) from hlen)
  clear hlen h4 h5 h6 hk
  go_enter Tryd.func34, Tryd.ntmps34
  go_wp2_with fail
  refine HLEN.out.mono ?_
  rintro e w1 ⟨rfl, rfl⟩
  rename World => w1x
  go_wp2
  refine wp_region_noPanic (wp_region_tills (fun W' => W'.cell? ⟨g, 0, none⟩ = some (.string k) ∧ W'.cell? ⟨g, 1, none⟩ = some (.slice A0 n0 c0)) (fun j => decide (9 ≤ j)) (by kernel_rfl) ?_)
  have hD := Below.drewN' (Below.refl w1x.heap.size w1x) 1
  have x0 := cell_below hD h0
  have x1 := cell_below hD h1
  have hsd := hs0.below hD
  change wpAnyS _ _ _ _ _ _ 12 _ _ (w1x.drewN 1)
  refine wpAnyS_take (i := 0) (v := .pointer (some ⟨g, 0, none⟩)) rfl (by kernel_rfl) (fun _ _ _ h => h) ⟨x0, x1⟩ (Or.inl ⟨rfl, fun W' hW => by obtain ⟨q0, q1⟩ := hW; go_simp⟩) ?_
  refine wpAnyS_take (i := 1) (v := .pointer (some ⟨g, 0, none⟩)) rfl (by kernel_rfl) (fun _ _ _ h => h) ⟨x0, x1⟩ (Or.inl ⟨rfl, fun W' hW => by obtain ⟨q0, q1⟩ := hW; go_simp⟩) ?_
  refine wpAnyS_take (i := 2) (v := .pointer (some ⟨g, 0, none⟩)) rfl (by kernel_rfl) (fun _ _ _ h => h) ⟨x0, x1⟩ (Or.inl ⟨rfl, fun W' hW => by obtain ⟨q0, q1⟩ := hW; go_simp⟩) ?_
  refine wpAnyS_take (i := 3) (v := .string k) rfl (by kernel_rfl) (fun _ _ _ h => h) ⟨x0, x1⟩ (Or.inl ⟨rfl, fun W' hW => by obtain ⟨q0, q1⟩ := hW; go_simp⟩) ?_
  refine wpAnyS_take (i := 4) (v := .pointer (some ⟨g, 0, none⟩)) rfl (by kernel_rfl) (fun _ _ _ h => h) ⟨x0, x1⟩ (Or.inl ⟨rfl, fun W' hW => by obtain ⟨q0, q1⟩ := hW; go_simp⟩) ?_
  refine wpAnyS_take (i := 5) (v := .pointer (some ⟨g, 0, none⟩)) rfl (by kernel_rfl) (fun _ _ _ h => h) ⟨x0, x1⟩ (Or.inl ⟨rfl, fun W' hW => by obtain ⟨q0, q1⟩ := hW; go_simp⟩) ?_
  refine wpAnyS_take (i := 6) (v := .pointer (some ⟨g, 1, none⟩)) rfl (by kernel_rfl) (fun _ _ _ h => h) ⟨x0, x1⟩ (Or.inl ⟨rfl, fun W' hW => by obtain ⟨q0, q1⟩ := hW; go_simp⟩) ?_
  refine wpAnyS_take (i := 7) (v := .slice A0 n0 c0) rfl (by kernel_rfl) (fun _ _ _ h => h) ⟨x0, x1⟩ (Or.inl ⟨rfl, fun W' hW => by obtain ⟨q0, q1⟩ := hW; go_simp⟩) ?_
  refine wpAnyS_step 8 rfl (by decide +kernel) ?_
  go_wp2_with fail
  refine (clone_any A0 n0 c0 l _ hsd (by omega)).mono ?_
  rintro e w3 ⟨v3, rfl, ho3, hb3⟩
  have hdz := hD.size
  have ho3' := ho3.mono hdz
  obtain ⟨A3, c3, rfl, _, _, _⟩ := ho3.forms
  rw [hn0] at ho3' ⊢
  have y0 := cell_below hb3 x0
  have y1 := cell_below hb3 x1
  have hbw := Below.next' hD hb3 hD.size
  go_wp2_with fail
  refine ⟨.inr ⟨y0, y1⟩, ?_⟩
  refine wpAnyS_step 9 rfl (by decide +kernel) ?_
  go_wp2_with fail
  refine ⟨.inl rfl, ?_⟩
  refine wpAnyS_step 10 rfl (by decide +kernel) ?_
  go_wp2_with fail
  refine ⟨.inl rfl, ?_⟩
  refine wpAnyS_step 11 rfl (by decide +kernel) ?_
  go_wp2_with fail
  refine ⟨.inl rfl, ?_⟩
  refine wpAnyS_done (by decide +kernel) (NoPanic.normal ?_)
  go_wp2
  go_ret3
  exact ⟨_, rfl, ho3', hbw⟩

end Go.Proofs.YtpbjianhkjjgkaaDoor
