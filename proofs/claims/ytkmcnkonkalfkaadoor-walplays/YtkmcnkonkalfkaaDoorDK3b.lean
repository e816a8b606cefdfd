/-
  The document's Crash where it cuts.
-/
import Derived.Test.YtkmcnkonkalfkaaDoorDK3
namespace Go.Proofs.YtkmcnkonkalfkaaDoor
open Go.RowKit

set_option maxHeartbeats 2000000 in
theorem rcrash_low {w : World} {B g : Nat} {v : Value} {l : List UInt8} {s : Nat} {c : Int} (hd : Mk w B g v l s c) (x : Int) (hl : l.length ≤ 1000000) (hx : x < 0) (h9 : s < l.length) :
    Calls Tryd.prog 30 #[.pointer (some ⟨g, 0, none⟩), .int .i64 x] w fun e w' => e = .returned (.tuple #[]) ∧ ∃ v', Mk w' B g v' (l.take s) s (-1) ∧ Only w w' (fun k => k = g) ∧ Moved w v v' := by
  obtain ⟨A0, c0, rfl, hsg, hlc, hcm⟩ := hd.own.forms
  have hB1 : B ≤ w.heap.size := Nat.le_of_lt (Nat.lt_of_le_of_lt hd.hB hd.mc.lt)
  have hz := hd.mc.h0
  obtain ⟨N, hN⟩ : ∃ N, l.length = N := ⟨_, rfl⟩
  have HN := Lib.hid hN
  have h0 := hd.mc.h0
  have h1 := hd.mc.h1
  have hs := hd.hs
  rw [hN] at h0 hz hsg hlc hl h9 hs
  clear hN
  have hwr : IntKind.i64.wrap (s : Int) = (s : Int) := IntWalk.i64_in _ (by omega)
  go_enter Tryd.func30, Tryd.ntmps30
  rw [HN.out]
  go_wp2
  go_quiet (fail)
  go_wp2
  have hd1 := hd.drewN nq
  have ho1 : Only w (w.drewN nq) (fun k => k = g) := (Only.refl _ _).drewN nq
  have hsg1 := hsg.drewN nq
  clear h0 h1 hsg hz
  generalize w.drewN nq = w1 at *
  have h0 := hd1.mc.h0
  have h1 := hd1.mc.h1
  rw [HN.out] at h0
  refine wp_region_noPanic (wp_region_till (fun W' => W'.cell? ⟨g, 0, none⟩ = some (.slice A0 N c0) ∧ W'.cell? ⟨g, 1, none⟩ = some (.int .i64 (s : Int))) 15 (by kernel_rfl) ?_)
  change wpAnyT _ _ _ _ _ _ 16 _ _ _
  refine wpAnyT_take (i := 0) (v := .pointer (some ⟨g, 0, none⟩)) rfl (by kernel_rfl) (fun _ _ _ h => h) ⟨h0, h1⟩ (Or.inl ⟨rfl, fun W' hW => by obtain ⟨q0, q1⟩ := hW; go_simp⟩) ?_
  refine wpAnyT_take (i := 1) (v := .pointer (some ⟨g, 0, none⟩)) rfl (by kernel_rfl) (fun _ _ _ h => h) ⟨h0, h1⟩ (Or.inl ⟨rfl, fun W' hW => by obtain ⟨q0, q1⟩ := hW; go_simp⟩) ?_
  refine wpAnyT_take (i := 2) (v := .pointer (some ⟨g, 0, none⟩)) rfl (by kernel_rfl) (fun _ _ _ h => h) ⟨h0, h1⟩ (Or.inl ⟨rfl, fun W' hW => by obtain ⟨q0, q1⟩ := hW; go_simp⟩) ?_
  refine wpAnyT_take (i := 3) (v := .pointer (some ⟨g, 0, none⟩)) rfl (by kernel_rfl) (fun _ _ _ h => h) ⟨h0, h1⟩ (Or.inl ⟨rfl, fun W' hW => by obtain ⟨q0, q1⟩ := hW; go_simp⟩) ?_
  refine wpAnyT_take (i := 4) (v := .slice A0 N c0) rfl (by kernel_rfl) (fun _ _ _ h => h) ⟨h0, h1⟩ (Or.inl ⟨rfl, fun W' hW => by obtain ⟨q0, q1⟩ := hW; go_simp⟩) ?_
  refine wpAnyT_take (i := 5) (v := .pointer (some ⟨g, 0, none⟩)) rfl (by kernel_rfl) (fun _ _ _ h => h) ⟨h0, h1⟩ (Or.inl ⟨rfl, fun W' hW => by obtain ⟨q0, q1⟩ := hW; go_simp⟩) ?_
  refine wpAnyT_take (i := 6) (v := .pointer (some ⟨g, 0, none⟩)) rfl (by kernel_rfl) (fun _ _ _ h => h) ⟨h0, h1⟩ (Or.inl ⟨rfl, fun W' hW => by obtain ⟨q0, q1⟩ := hW; go_simp⟩) ?_
  refine wpAnyT_take (i := 7) (v := .pointer (some ⟨g, 1, none⟩)) rfl (by kernel_rfl) (fun _ _ _ h => h) ⟨h0, h1⟩ (Or.inl ⟨rfl, fun W' hW => by obtain ⟨q0, q1⟩ := hW; go_simp⟩) ?_
  refine wpAnyT_take (i := 8) (v := .int .i64 (s : Int)) rfl (by kernel_rfl) (fun _ _ _ h => h) ⟨h0, h1⟩ (Or.inl ⟨rfl, fun W' hW => by obtain ⟨q0, q1⟩ := hW; go_simp⟩) ?_
  refine wpAnyT_take (i := 9) (v := .int .i64 0) rfl (by kernel_rfl) (fun _ _ _ h => h) ⟨h0, h1⟩ (Or.inl ⟨rfl, fun W' hW => by obtain ⟨q0, q1⟩ := hW; go_simp⟩) ?_
  refine wpAnyT_take (i := 10) (v := .int .i64 (s : Int)) rfl (by kernel_rfl) (fun _ _ _ h => h) ⟨h0, h1⟩ (Or.inl ⟨rfl, fun W' hW => by obtain ⟨q0, q1⟩ := hW; go_simp⟩) ?_
  refine wpAnyT_take (i := 11) (v := .slice A0 s c0) rfl (by kernel_rfl) (fun _ _ _ h => h) ⟨h0, h1⟩ (Or.inl ⟨rfl, fun W' hW => by obtain ⟨q0, q1⟩ := hW; first | (go_simp; done) | (go_simp; intro h; exact absurd h (by omega))⟩) ?_
  refine wpAnyT_step 12 rfl (by kernel_rfl) ?_
  go_wp2_with fail
  refine (join_any A0 none (s) 0 c0 0 (l.take (s)) [] _ ((hsg1.upto (s) (by omega)).drew) (Seg.nil _ _) (by omega)).mono ?_
  rintro e w2 ⟨v2, rfl, ho2, hb2⟩
  rw [List.append_nil] at ho2
  obtain ⟨A2, c2, rfl, _, _, _⟩ := ho2.forms
  obtain ⟨m2, hm2⟩ : ∃ m2, (l.take (s)).length = m2 := ⟨_, rfl⟩
  rw [hm2] at ho2 ⊢
  have HM2 := Lib.hid (show m2 = s by rw [← hm2, List.length_take, HN.out]; omega)
  clear hm2
  have hb2' : Below w1.heap.size w1 w2 := Below.undrew hb2
  have hd2 := hd1.below hb2'
  have z0 := hd2.mc.h0
  have z1 := hd2.mc.h1
  have z2 := hd2.mc.h2
  have zf := hd2.mc.fr 0
  have zg := hd2.mc.fr 1
  have zh := hd2.mc.fr 2
  rw [HN.out] at z0
  clear h0 h1 hsg1 hb2
  go_wp2_with fail
  refine ⟨.inr ⟨z0, z1⟩, ?_⟩
  refine wpAnyT_step 13 rfl (by kernel_rfl) ?_
  go_wp2_with fail
  refine ⟨.inr ⟨z0, z1⟩, ?_⟩
  refine wpAnyT_step 14 rfl (by kernel_rfl) ?_
  go_wp2_with fail
  refine ⟨.inr ⟨z0, z1⟩, ?_⟩
  refine wpAnyT_step 15 rfl (by kernel_rfl) ?_
  go_wp2_with fail
  refine ⟨.inl trivial, ?_⟩
  refine wpAnyT_done (by kernel_rfl) (NoPanic.normal ?_)
  go_wp2
  go_end0
  have hlt := ho2.lt
  have hgl := hd1.mc.lt
  have hon : Only w2 (((w2.setCell ⟨g, 0, none⟩ (.slice A2 m2 c2)).setCell ⟨g, 1, none⟩ (.int .i64 (m2 : Int))).setCell ⟨g, 2, none⟩ (.int .i64 (-1))) (fun k => k = g) := (((Only.refl _ (fun i => i = g)).setCell ⟨g, _, none⟩ _ fun _ => rfl).setCell ⟨g, _, none⟩ _ fun _ => rfl).setCell ⟨g, _, none⟩ _ fun _ => rfl
  have hm := HM2.out
  have hlt' : ∀ k, (Value.slice A2 m2 c2).ownBlock = some k → w1.heap.size ≤ k := fun k hk => (hlt k hk).1
  subst hm
  refine ⟨rfl, _, ⟨((hd2.mc.set0 _).set1 _).set2 _, (ho2.mono (show B ≤ w1.heap.size from Nat.le_trans hB1 ho1.size)).only hon (fun k hk e => ?_), fun e => ?_, hd1.hB, by rw [List.length_take, HN.out]; omega, by omega, by omega⟩, ?_, Moved.of_ge fun k hk => ?_⟩
  · have := hlt' k hk
    omega
  · have := hlt' _ e
    omega
  · exact (ho1.trans (Only.of_below (S := fun _ => False) hb2') fun _ _ h => h.elim).trans hon fun _ _ h => h
  · have := hlt' k hk
    have := ho1.size
    omega

set_option maxHeartbeats 2000000 in
theorem rcrash_mid {w : World} {B g : Nat} {v : Value} {l : List UInt8} {s : Nat} {c : Int} (hd : Mk w B g v l s c) (y : Nat) (hl : l.length ≤ 1000000)  (h9 : y + s < l.length) :
    Calls Tryd.prog 30 #[.pointer (some ⟨g, 0, none⟩), .int .i64 (y : Int)] w fun e w' => e = .returned (.tuple #[]) ∧ ∃ v', Mk w' B g v' (l.take (s + y)) (s + y) (-1) ∧ Only w w' (fun k => k = g) ∧ Moved w v v' := by
  obtain ⟨A0, c0, rfl, hsg, hlc, hcm⟩ := hd.own.forms
  have hB1 : B ≤ w.heap.size := Nat.le_of_lt (Nat.lt_of_le_of_lt hd.hB hd.mc.lt)
  have hz := hd.mc.h0
  obtain ⟨N, hN⟩ : ∃ N, l.length = N := ⟨_, rfl⟩
  have HN := Lib.hid hN
  have h0 := hd.mc.h0
  have h1 := hd.mc.h1
  have hs := hd.hs
  rw [hN] at h0 hz hsg hlc hl h9 hs
  clear hN
  have hwr : IntKind.i64.wrap ((s : Int) + (y : Int)) = ((s : Int) + (y : Int)) := IntWalk.i64_in _ (by omega)
  go_enter Tryd.func30, Tryd.ntmps30
  rw [HN.out]
  go_wp2
  go_quiet (fail)
  go_wp2
  have hd1 := hd.drewN nq
  have ho1 : Only w (w.drewN nq) (fun k => k = g) := (Only.refl _ _).drewN nq
  have hsg1 := hsg.drewN nq
  clear h0 h1 hsg hz
  generalize w.drewN nq = w1 at *
  have h0 := hd1.mc.h0
  have h1 := hd1.mc.h1
  rw [HN.out] at h0
  refine wp_region_noPanic (wp_region_till (fun W' => W'.cell? ⟨g, 0, none⟩ = some (.slice A0 N c0) ∧ W'.cell? ⟨g, 1, none⟩ = some (.int .i64 (s : Int))) 15 (by kernel_rfl) ?_)
  change wpAnyT _ _ _ _ _ _ 16 _ _ _
  refine wpAnyT_take (i := 0) (v := .pointer (some ⟨g, 0, none⟩)) rfl (by kernel_rfl) (fun _ _ _ h => h) ⟨h0, h1⟩ (Or.inl ⟨rfl, fun W' hW => by obtain ⟨q0, q1⟩ := hW; go_simp⟩) ?_
  refine wpAnyT_take (i := 1) (v := .pointer (some ⟨g, 0, none⟩)) rfl (by kernel_rfl) (fun _ _ _ h => h) ⟨h0, h1⟩ (Or.inl ⟨rfl, fun W' hW => by obtain ⟨q0, q1⟩ := hW; go_simp⟩) ?_
  refine wpAnyT_take (i := 2) (v := .pointer (some ⟨g, 0, none⟩)) rfl (by kernel_rfl) (fun _ _ _ h => h) ⟨h0, h1⟩ (Or.inl ⟨rfl, fun W' hW => by obtain ⟨q0, q1⟩ := hW; go_simp⟩) ?_
  refine wpAnyT_take (i := 3) (v := .pointer (some ⟨g, 0, none⟩)) rfl (by kernel_rfl) (fun _ _ _ h => h) ⟨h0, h1⟩ (Or.inl ⟨rfl, fun W' hW => by obtain ⟨q0, q1⟩ := hW; go_simp⟩) ?_
  refine wpAnyT_take (i := 4) (v := .slice A0 N c0) rfl (by kernel_rfl) (fun _ _ _ h => h) ⟨h0, h1⟩ (Or.inl ⟨rfl, fun W' hW => by obtain ⟨q0, q1⟩ := hW; go_simp⟩) ?_
  refine wpAnyT_take (i := 5) (v := .pointer (some ⟨g, 0, none⟩)) rfl (by kernel_rfl) (fun _ _ _ h => h) ⟨h0, h1⟩ (Or.inl ⟨rfl, fun W' hW => by obtain ⟨q0, q1⟩ := hW; go_simp⟩) ?_
  refine wpAnyT_take (i := 6) (v := .pointer (some ⟨g, 0, none⟩)) rfl (by kernel_rfl) (fun _ _ _ h => h) ⟨h0, h1⟩ (Or.inl ⟨rfl, fun W' hW => by obtain ⟨q0, q1⟩ := hW; go_simp⟩) ?_
  refine wpAnyT_take (i := 7) (v := .pointer (some ⟨g, 1, none⟩)) rfl (by kernel_rfl) (fun _ _ _ h => h) ⟨h0, h1⟩ (Or.inl ⟨rfl, fun W' hW => by obtain ⟨q0, q1⟩ := hW; go_simp⟩) ?_
  refine wpAnyT_take (i := 8) (v := .int .i64 (s : Int)) rfl (by kernel_rfl) (fun _ _ _ h => h) ⟨h0, h1⟩ (Or.inl ⟨rfl, fun W' hW => by obtain ⟨q0, q1⟩ := hW; go_simp⟩) ?_
  refine wpAnyT_take (i := 9) (v := .int .i64 (y : Int)) rfl (by kernel_rfl) (fun _ _ _ h => h) ⟨h0, h1⟩ (Or.inl ⟨rfl, fun W' hW => by obtain ⟨q0, q1⟩ := hW; go_simp⟩) ?_
  refine wpAnyT_take (i := 10) (v := .int .i64 ((s : Int) + (y : Int))) rfl (by kernel_rfl) (fun _ _ _ h => h) ⟨h0, h1⟩ (Or.inl ⟨rfl, fun W' hW => by obtain ⟨q0, q1⟩ := hW; go_simp⟩) ?_
  refine wpAnyT_take (i := 11) (v := .slice A0 (s + y) c0) rfl (by kernel_rfl) (fun _ _ _ h => h) ⟨h0, h1⟩ (Or.inl ⟨rfl, fun W' hW => by obtain ⟨q0, q1⟩ := hW; first | (go_simp; done) | (go_simp; intro h; exact absurd h (by omega)) | (go_simp; rw [if_pos ⟨by omega, by omega⟩, show ((s : Int) + (y : Int)).toNat = s + y by omega])⟩) ?_
  refine wpAnyT_step 12 rfl (by kernel_rfl) ?_
  go_wp2_with fail
  refine (join_any A0 none (s + y) 0 c0 0 (l.take (s + y)) [] _ ((hsg1.upto (s + y) (by omega)).drew) (Seg.nil _ _) (by omega)).mono ?_
  rintro e w2 ⟨v2, rfl, ho2, hb2⟩
  rw [List.append_nil] at ho2
  obtain ⟨A2, c2, rfl, _, _, _⟩ := ho2.forms
  obtain ⟨m2, hm2⟩ : ∃ m2, (l.take (s + y)).length = m2 := ⟨_, rfl⟩
  rw [hm2] at ho2 ⊢
  have HM2 := Lib.hid (show m2 = s + y by rw [← hm2, List.length_take, HN.out]; omega)
  clear hm2
  have hb2' : Below w1.heap.size w1 w2 := Below.undrew hb2
  have hd2 := hd1.below hb2'
  have z0 := hd2.mc.h0
  have z1 := hd2.mc.h1
  have z2 := hd2.mc.h2
  have zf := hd2.mc.fr 0
  have zg := hd2.mc.fr 1
  have zh := hd2.mc.fr 2
  rw [HN.out] at z0
  clear h0 h1 hsg1 hb2
  go_wp2_with fail
  refine ⟨.inr ⟨z0, z1⟩, ?_⟩
  refine wpAnyT_step 13 rfl (by kernel_rfl) ?_
  go_wp2_with fail
  refine ⟨.inr ⟨z0, z1⟩, ?_⟩
  refine wpAnyT_step 14 rfl (by kernel_rfl) ?_
  go_wp2_with fail
  refine ⟨.inr ⟨z0, z1⟩, ?_⟩
  refine wpAnyT_step 15 rfl (by kernel_rfl) ?_
  go_wp2_with fail
  refine ⟨.inl trivial, ?_⟩
  refine wpAnyT_done (by kernel_rfl) (NoPanic.normal ?_)
  go_wp2
  go_end0
  have hlt := ho2.lt
  have hgl := hd1.mc.lt
  have hon : Only w2 (((w2.setCell ⟨g, 0, none⟩ (.slice A2 m2 c2)).setCell ⟨g, 1, none⟩ (.int .i64 (m2 : Int))).setCell ⟨g, 2, none⟩ (.int .i64 (-1))) (fun k => k = g) := (((Only.refl _ (fun i => i = g)).setCell ⟨g, _, none⟩ _ fun _ => rfl).setCell ⟨g, _, none⟩ _ fun _ => rfl).setCell ⟨g, _, none⟩ _ fun _ => rfl
  have hm := HM2.out
  have hlt' : ∀ k, (Value.slice A2 m2 c2).ownBlock = some k → w1.heap.size ≤ k := fun k hk => (hlt k hk).1
  subst hm
  refine ⟨rfl, _, ⟨((hd2.mc.set0 _).set1 _).set2 _, (ho2.mono (show B ≤ w1.heap.size from Nat.le_trans hB1 ho1.size)).only hon (fun k hk e => ?_), fun e => ?_, hd1.hB, by rw [List.length_take, HN.out]; omega, by omega, by omega⟩, ?_, Moved.of_ge fun k hk => ?_⟩
  · have := hlt' k hk
    omega
  · have := hlt' _ e
    omega
  · exact (ho1.trans (Only.of_below (S := fun _ => False) hb2') fun _ _ h => h.elim).trans hon fun _ _ h => h
  · have := hlt' k hk
    have := ho1.size
    omega

theorem rcrash_any {w : World} {B g : Nat} {v : Value} {l : List UInt8} {s : Nat} {c : Int} (hd : Mk w B g v l s c) (x : Int) (hl : l.length ≤ 1000000) :
    Calls Tryd.prog 30 #[.pointer (some ⟨g, 0, none⟩), .int .i64 x] w fun e w' => e = .returned (.tuple #[]) ∧ ∃ v', Mk w' B g v' (l.take (s + min x.toNat (l.length - s))) (s + min x.toNat (l.length - s)) (-1) ∧ Only w w' (fun k => k = g) ∧ Moved w v v' := by
  have hs := hd.hs
  by_cases h : (x < 0 ∧ ¬ ((0 : Int) < (l.length : Int) - (s : Int))) ∨ (0 ≤ x ∧ (l.length : Int) - (s : Int) ≤ x)
  · refine (rcrash_high hd x hl h).mono ?_
    rintro e w1 ⟨rfl, hm, ho⟩
    refine ⟨rfl, v, ?_, ho, Moved.refl _ _⟩
    rw [show s + min x.toNat (l.length - s) = l.length by omega, List.take_of_length_le (Nat.le_refl _)]
    exact hm
  · by_cases hx : x < 0
    · rw [show s + min x.toNat (l.length - s) = s by omega]
      exact rcrash_low hd x hl hx (by omega)
    · obtain ⟨y, rfl⟩ := Int.eq_ofNat_of_zero_le (show 0 ≤ x by omega)
      rw [show s + min (y : Int).toNat (l.length - s) = s + y by omega]
      exact rcrash_mid hd y hl (by omega)

end Go.Proofs.YtkmcnkonkalfkaaDoor
