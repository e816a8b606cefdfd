/-
  Texts of one claim, joined.
-/
import Derived.Test.YtpbjianhkjjgkaaDoorZ08
import Derived.Test.YtpbjianhkjjgkaaDoorZ0A
import Derived.Test.YtpbjianhkjjgkaaDoorZ06
namespace Go.Proofs.YtpbjianhkjjgkaaDoor
open Go.RowKit

/-- A leaf at block g: its key, its row l in a row of the program's own, its digest. -/
structure Lf (w : World) (B g : Nat) (k : ByteArray) (v : Value) (l : List UInt8) (d : ByteArray) : Prop where
  h0 : w.cell? ⟨g, 0, none⟩ = some (.string k)
  h1 : w.cell? ⟨g, 1, none⟩ = some v
  h4 : w.cell? ⟨g, 4, none⟩ = some (.int .i64 0)
  h5 : w.cell? ⟨g, 5, none⟩ = some (.string d)
  h6 : w.cell? ⟨g, 6, none⟩ = some (.int .i64 1)
  own : Own w B 5 v l
  hB : B ≤ g
section
variable {w w' : World} {S : Nat → Prop} {B g : Nat} {k : ByteArray} {v : Value} {l : List UInt8} {d : ByteArray}
theorem Lf.lt (h : Lf w B g k v l d) : g < w.heap.size := World.block_lt_of_cell? w _ h.h0
theorem Lf.only (h : Lf w B g k v l d) (hw : Only w w' S) (hS : ∀ i, DkS g v i → ¬ S i) : Lf w' B g k v l d :=
  ⟨hw.cell h.h0 (hS g (.inl rfl)), hw.cell h.h1 (hS g (.inl rfl)), hw.cell h.h4 (hS g (.inl rfl)), hw.cell h.h5 (hS g (.inl rfl)), hw.cell h.h6 (hS g (.inl rfl)), h.own.only hw fun i hi => hS i (.inr hi), h.hB⟩
theorem Lf.ltS (h : Lf w B g k v l d) : ∀ i, DkS g v i → i < w.heap.size := fun i hi => by
  rcases hi with rfl | hi
  · exact h.lt
  · exact (h.own.lt i hi).2
theorem Lf.geS (h : Lf w B g k v l d) : ∀ i, DkS g v i → B ≤ i := fun i hi => by
  rcases hi with rfl | hi
  · exact h.hB
  · exact (h.own.lt i hi).1
theorem Lf.below (h : Lf w B g k v l d) (hb : Below w.heap.size w w') : Lf w' B g k v l d := h.only (Only.of_below (S := fun _ => False) hb) fun _ _ => id
theorem Lf.mono (h : Lf w B g k v l d) {b : Nat} (hb : b ≤ B) : Lf w b g k v l d := ⟨h.h0, h.h1, h.h4, h.h5, h.h6, h.own.mono hb, Nat.le_trans hb h.hB⟩
end

set_option maxHeartbeats 1000000 in
theorem keySum_any (k : ByteArray) (w : World) (hk : k.size ≤ 1000) (ht : Tab w) :
    Calls Tryd.prog 64 #[.string k] w fun e w' => e = .returned (.string ⟨(sha k.data.toList).toArray⟩) ∧ Below w.heap.size w w' := by
  have kcv := fun W => Lib.run_convert_string_bytes (P := Tryd.prog) W 9 29 5 k Tryd.underlying9 Tryd.underlying29 Tryd.underlying5
  go_enter Tryd.func64, Tryd.ntmps64
  go_wp2_with fail
  have hb0 := bytesBelow w 5 k
  refine (sum_any _ k.size _ k.data.toList _ (bytesSeg w 5 k) (by omega) (Tab.below ht hb0)).mono ?_
  rintro e w1 ⟨rfl, hb1⟩
  go_wp2
  go_ret
  exact ⟨rfl, Below.next' hb0 hb1 hb0.size⟩

set_option maxHeartbeats 1000000 in
theorem newLeaf_any (k : ByteArray) (A : Option Addr) (n c : Nat) (l : List UInt8) (w : World) (ha : Seg w A n l) (hk : k.size ≤ 1000) (hn : n ≤ 100000) (ht : Tab w) :
    Calls Tryd.prog 71 #[.string k, .slice A n c] w fun e w' => ∃ g v, e = .returned (.pointer (some ⟨g, 0, none⟩)) ∧ Lf w' w.heap.size g k v l ⟨(sha (leafL k.data.toList l)).toArray⟩ ∧ Below w.heap.size w w' := by
  have hlf := fun W (h : Below w.heap.size w W) => leaf_any k A n c l W (ha.below h) (by omega) (by omega) (Tab.below ht h)
  generalize (⟨(sha (leafL k.data.toList l)).toArray⟩ : ByteArray) = D at *
  have HLF := Lib.hid hlf
  clear hlf
  go_enter Tryd.func71, Tryd.ntmps71
  go_wp2_with fail
  refine (clone_any A n c l _ ha (by omega)).mono ?_
  rintro e w1 ⟨v1, rfl, ho1, hb1⟩
  obtain ⟨A1, c1, rfl, _, _, _⟩ := ho1.forms
  go_wp2_with fail
  refine (HLF.out _ hb1).mono ?_
  rintro e w2 ⟨rfl, hb2⟩
  have hbw2 := Below.next' hb1 hb2 hb1.size
  have ho2 := ho1.below hb2
  go_wp2
  go_ret
  exact ⟨_, _, rfl, ⟨by simp, by simp, by simp, by simp, by simp, ho2.alloc _, hbw2.size⟩, hbw2.alloc hbw2.size _⟩

section
variable {w : World} {B g : Nat} {k : ByteArray} {v : Value} {l : List UInt8} {d : ByteArray}
theorem nlen_nil (w : World) : Calls Tryd.prog 25 #[.pointer none] w fun e w' => e = .returned (.int .i64 0) ∧ w' = w := by
  go_enter Tryd.func25, Tryd.ntmps25
  go_wp2
  go_ret
  exact ⟨rfl, rfl⟩
theorem nlen_leaf (h : Lf w B g k v l d) : Calls Tryd.prog 25 #[.pointer (some ⟨g, 0, none⟩)] w fun e w' => e = .returned (.int .i64 1) ∧ w' = w := by
  have h6 := h.h6
  go_enter Tryd.func25, Tryd.ntmps25
  go_wp2
  go_ret
  exact ⟨rfl, rfl⟩
theorem ndigest_leaf (h : Lf w B g k v l d) : Calls Tryd.prog 23 #[.pointer (some ⟨g, 0, none⟩)] w fun e w' => e = .returned (.string d) ∧ w' = w := by
  have h5 := h.h5
  go_enter Tryd.func23, Tryd.ntmps23
  go_wp2
  go_ret
  exact ⟨rfl, rfl⟩
theorem top_nil (w : World) : Calls Tryd.prog 72 #[.pointer none] w fun e w' => e = .returned (.int .i64 0) ∧ w' = w := by
  go_enter Tryd.func72, Tryd.ntmps72
  go_wp2
  go_ret
  exact ⟨rfl, rfl⟩

set_option maxHeartbeats 2000000 in
theorem with_nil (g : Nat) (s : ByteArray) (x : Int) (w : World) : Calls Tryd.prog 70 #[.pointer none, .pointer (some ⟨g, 0, none⟩), .string s, .int .i64 x] w fun e w' => e = .returned (.pointer (some ⟨g, 0, none⟩)) ∧ Below w.heap.size w w' := by
  go_enter Tryd.func70, Tryd.ntmps70
  go_wp2
  refine wp_region_noPanic (wp_region_tills (fun _ => True) (fun j => decide (17 ≤ j)) (by kernel_rfl) ?_)
  have hD := Below.drewN' (Below.refl w.heap.size w) 1
  change wpAnyS _ _ _ _ _ _ 18 _ _ (w.drewN 1)
  generalize w.drewN 1 = w1 at *
  refine wpAnyS_take (i := 0) (v := .pointer none) rfl (by kernel_rfl) (fun _ _ _ h => h) trivial (Or.inl ⟨rfl, fun W' hW => by go_simp⟩) ?_
  refine wpAnyS_take (i := 1) (v := .bool true) rfl (by kernel_rfl) (fun _ _ _ h => h) trivial (Or.inl ⟨rfl, fun W' hW => by go_simp⟩) ?_
  refine wpAnyS_take (i := 2) (v := .bool true) rfl (by kernel_rfl) (fun _ _ _ h => h) trivial (Or.inl ⟨rfl, fun W' hW => by go_simp⟩) ?_
  refine wpAnyS_take (i := 3) (v := undef) rfl (by kernel_rfl) (fun _ _ _ h => h) trivial (Or.inr ⟨by kernel_rfl, rfl⟩) ?_
  refine wpAnyS_take (i := 4) (v := undef) rfl (by kernel_rfl) (fun _ _ _ h => h) trivial (Or.inr ⟨by kernel_rfl, rfl⟩) ?_
  refine wpAnyS_take (i := 5) (v := undef) rfl (by kernel_rfl) (fun _ _ _ h => h) trivial (Or.inr ⟨by kernel_rfl, rfl⟩) ?_
  refine wpAnyS_take (i := 6) (v := undef) rfl (by kernel_rfl) (fun _ _ _ h => h) trivial (Or.inr ⟨by kernel_rfl, rfl⟩) ?_
  refine wpAnyS_take (i := 7) (v := undef) rfl (by kernel_rfl) (fun _ _ _ h => h) trivial (Or.inr ⟨by kernel_rfl, rfl⟩) ?_
  refine wpAnyS_take (i := 8) (v := undef) rfl (by kernel_rfl) (fun _ _ _ h => h) trivial (Or.inr ⟨by kernel_rfl, rfl⟩) ?_
  refine wpAnyS_take (i := 9) (v := undef) rfl (by kernel_rfl) (fun _ _ _ h => h) trivial (Or.inr ⟨by kernel_rfl, rfl⟩) ?_
  refine wpAnyS_take (i := 10) (v := undef) rfl (by kernel_rfl) (fun _ _ _ h => h) trivial (Or.inr ⟨by kernel_rfl, rfl⟩) ?_
  refine wpAnyS_take (i := 11) (v := undef) rfl (by kernel_rfl) (fun _ _ _ h => h) trivial (Or.inr ⟨by kernel_rfl, rfl⟩) ?_
  refine wpAnyS_take (i := 12) (v := undef) rfl (by kernel_rfl) (fun _ _ _ h => h) trivial (Or.inr ⟨by kernel_rfl, rfl⟩) ?_
  refine wpAnyS_take (i := 13) (v := undef) rfl (by kernel_rfl) (fun _ _ _ h => h) trivial (Or.inr ⟨by kernel_rfl, rfl⟩) ?_
  refine wpAnyS_take (i := 14) (v := undef) rfl (by kernel_rfl) (fun _ _ _ h => h) trivial (Or.inr ⟨by kernel_rfl, rfl⟩) ?_
  refine wpAnyS_take (i := 15) (v := undef) rfl (by kernel_rfl) (fun _ _ _ h => h) trivial (Or.inr ⟨by kernel_rfl, rfl⟩) ?_
  refine wpAnyS_take (i := 16) (v := undef) rfl (by kernel_rfl) (fun _ _ _ h => h) trivial (Or.inr ⟨by kernel_rfl, rfl⟩) ?_
  refine wpAnyS_step 17 rfl (by decide +kernel) ?_
  go_wp2_with fail
  refine ⟨.inl rfl, ?_⟩
  refine wpAnyS_done (by decide +kernel) (NoPanic.normal ?_)
  go_wp2
  go_ret
  exact ⟨rfl, hD⟩

set_option maxHeartbeats 2000000 in
theorem put_nil (k : ByteArray) (A : Option Addr) (n c : Nat) (l : List UInt8) (w : World) (ha : Seg w A n l) (hk : k.size ≤ 1000) (hn : n ≤ 100000) (ht : Tab w) :
    Calls Tryd.prog 29 #[.pointer none, .string k, .slice A n c] w fun e w' => ∃ g v, e = .returned (.pointer (some ⟨g, 0, none⟩)) ∧ Lf w' w.heap.size g k v l ⟨(sha (leafL k.data.toList l)).toArray⟩ ∧ Below w.heap.size w w' := by
  have hnl := newLeaf_any k A n c l w ha hk hn ht
  generalize (⟨(sha (leafL k.data.toList l)).toArray⟩ : ByteArray) = D at *
  go_enter Tryd.func29, Tryd.ntmps29
  go_wp2_with fail
  refine hnl.mono ?_
  rintro e w1 ⟨g, v1, rfl, hl1, hb1⟩
  clear hnl
  go_wp2_with fail
  refine (keySum_any k _ hk (Tab.below ht hb1)).mono ?_
  rintro e w2 ⟨rfl, hb2⟩
  have hl2 := hl1.below hb2
  have hbw2 := Below.next' hb1 hb2 hb1.size
  generalize (⟨(sha k.data.toList).toArray⟩ : ByteArray) = T at *
  clear hl1 hb1 hb2
  go_wp2_with fail
  refine (top_nil _).mono ?_
  rintro e w3 ⟨rfl, rfl⟩
  go_wp2_with fail
  refine (with_nil g T 0 _).mono ?_
  rintro e w4 ⟨rfl, hb4⟩
  go_wp2
  go_ret
  exact ⟨g, v1, rfl, hl2.below hb4, Below.next' hbw2 hb4 hbw2.size⟩

set_option maxHeartbeats 2000000 in
theorem find_leaf (h : Lf w B g k v l d) (s : ByteArray) : Calls Tryd.prog 63 #[.pointer (some ⟨g, 0, none⟩), .string k, .string s] w fun e w' => e = .returned (.pointer (some ⟨g, 0, none⟩)) ∧ w' = w := by
  have h0 := h.h0
  go_enter Tryd.func63, Tryd.ntmps63
  go_wp2_with fail
  go_loopw [0] (fun p w' => p = .pointer (some ⟨g, 0, none⟩) ∧ w' = w) (fun _ _ => 0)
  case atStart => exact ⟨rfl, rfl⟩
  case round =>
    obtain ⟨rfl, rfl⟩ := hrel
    go_wp2_with fail
    refine (nlen_leaf h).mono ?_
    rintro e w1 ⟨rfl, rfl⟩
    go_wp2
    go_ret
    exact ⟨rfl, rfl⟩

theorem without_leaf (h : Lf w B g k v l d) (s : ByteArray) : Calls Tryd.prog 73 #[.pointer (some ⟨g, 0, none⟩), .string s] w fun e w' => e = .returned (.pointer none) ∧ w' = w := by
  go_enter Tryd.func73, Tryd.ntmps73
  go_wp2_with fail
  refine (nlen_leaf h).mono ?_
  rintro e w1 ⟨rfl, rfl⟩
  go_wp2
  go_ret
  exact ⟨rfl, rfl⟩

theorem del_leaf (h : Lf w B g k v l d) (hk : k.size ≤ 1000) (ht : Tab w) : Calls Tryd.prog 30 #[.pointer (some ⟨g, 0, none⟩), .string k] w fun e w' => e = .returned (.pointer none) ∧ Below w.heap.size w w' := by
  go_enter Tryd.func30, Tryd.ntmps30
  go_wp2_with fail
  refine (keySum_any k _ hk ht).mono ?_
  rintro e w1 ⟨rfl, hb1⟩
  have h1 := h.below hb1
  generalize (⟨(sha k.data.toList).toArray⟩ : ByteArray) = T at *
  go_wp2_with fail
  refine (find_leaf h1 T).mono ?_
  rintro e w2 ⟨rfl, rfl⟩
  go_wp2_with fail
  refine (without_leaf h1 T).mono ?_
  rintro e w3 ⟨rfl, rfl⟩
  go_wp2
  go_ret
  exact ⟨rfl, hb1⟩

theorem get_leaf (h : Lf w B g k v l d) (hk : k.size ≤ 1000) (hl : l.length ≤ 100000) (ht : Tab w) : Calls Tryd.prog 20 #[.pointer (some ⟨g, 0, none⟩), .string k] w fun e w' => ∃ u, e = .returned (.tuple #[u, .bool true]) ∧ Own w' w.heap.size 5 u l ∧ Below w.heap.size w w' := by
  obtain ⟨A0, c0, rfl, _, _, _⟩ := h.own.forms
  go_enter Tryd.func20, Tryd.ntmps20
  go_wp2_with fail
  refine (keySum_any k _ hk ht).mono ?_
  rintro e w1 ⟨rfl, hb1⟩
  have h1 := h.below hb1
  generalize (⟨(sha k.data.toList).toArray⟩ : ByteArray) = T at *
  go_wp2_with fail
  refine (find_leaf h1 T).mono ?_
  rintro e w2 ⟨rfl, rfl⟩
  have y1 := h1.h1
  obtain ⟨_, _, e, hs1, _, _⟩ := h1.own.forms
  injection e with e1 _ e2
  subst e1 e2
  go_wp2_with fail
  refine (clone_any A0 l.length c0 l _ hs1 (by omega)).mono ?_
  rintro e w3 ⟨v3, rfl, ho3, hb3⟩
  obtain ⟨A3, c3, rfl, _, _, _⟩ := ho3.forms
  go_wp2
  go_ret2
  exact ⟨_, rfl, ho3.mono hb1.size, Below.next' hb1 hb3 hb1.size⟩

set_option maxHeartbeats 2000000 in
theorem leaf_leaf (h : Lf w B g k v l d) (hl : l.length ≤ 100000) : Calls Tryd.prog 34 #[.pointer (some ⟨g, 0, none⟩)] w fun e w' => ∃ u, e = .returned (.tuple #[.string k, u, .bool true]) ∧ Own w' w.heap.size 5 u l ∧ Below w.heap.size w w' := by
  obtain ⟨A0, c0, rfl, hs0, _, _⟩ := h.own.forms
  obtain ⟨n0, hn0⟩ : ∃ n0, l.length = n0 := ⟨_, rfl⟩
  have h0 := h.h0
  have h1 := h.h1
  rw [hn0] at hs0 h1
  go_enter Tryd.func34, Tryd.ntmps34
  go_wp2_with fail
  refine (nlen_leaf h).mono ?_
  rintro e w1 ⟨rfl, rfl⟩
  rename World => w1x
  go_wp2
  refine wp_region_noPanic (wp_region_tills (fun W' => W'.cell? ⟨g, 0, none⟩ = some (.string k) ∧ W'.cell? ⟨g, 1, none⟩ = some (.slice A0 n0 c0)) (fun j => decide (9 ≤ j)) (by kernel_rfl) ?_)
  have hD := Below.drewN' (Below.refl w1x.heap.size w1x) 1
  have x0 := cell_below hD h0
  have x1 := cell_below hD h1
  have hsd := hs0.below hD
  change wpAnyS _ _ _ _ _ _ 12 _ _ (w1x.drewN 1)
  refine wpAnyS_take (i := 0) (v := .pointer (some ⟨g, 0, none⟩)) rfl (by kernel_rfl) (fun _ _ _ h => h) ⟨x0, x1⟩ (Or.inl ⟨rfl, fun W' hW => by obtain ⟨q0, q1⟩ := hW; go_simp⟩) ?_
  refine wpAnyS_take (i := 1) (v := .pointer (some ⟨g, 0, none⟩)) rfl (by kernel_rfl) (fun _ _ _ h => h) ⟨x0, x1⟩ (Or.inl ⟨rfl, fun W' hW => by obtain ⟨q0, q1⟩ := hW; go_simp⟩) ?_
  refine wpAnyS_take (i := 2) (v := .pointer (some ⟨g, 0, none⟩)) rfl (by kernel_rfl) (fun _ _ _ h => h) ⟨x0, x1⟩ (Or.inl ⟨rfl, fun W' hW => by obtain ⟨q0, q1⟩ := hW; go_simp⟩) ?_
  refine wpAnyS_take (i := 3) (v := .string k) rfl (by kernel_rfl) (fun _ _ _ h => h) ⟨x0, x1⟩ (Or.inl ⟨rfl, fun W' hW => by obtain ⟨q0, q1⟩ := hW; go_simp⟩) ?_
  refine wpAnyS_take (i := 4) (v := .pointer (some ⟨g, 0, none⟩)) rfl (by kernel_rfl) (fun _ _ _ h => h) ⟨x0, x1⟩ (Or.inl ⟨rfl, fun W' hW => by obtain ⟨q0, q1⟩ := hW; go_simp⟩) ?_
  refine wpAnyS_take (i := 5) (v := .pointer (some ⟨g, 0, none⟩)) rfl (by kernel_rfl) (fun _ _ _ h => h) ⟨x0, x1⟩ (Or.inl ⟨rfl, fun W' hW => by obtain ⟨q0, q1⟩ := hW; go_simp⟩) ?_
  refine wpAnyS_take (i := 6) (v := .pointer (some ⟨g, 1, none⟩)) rfl (by kernel_rfl) (fun _ _ _ h => h) ⟨x0, x1⟩ (Or.inl ⟨rfl, fun W' hW => by obtain ⟨q0, q1⟩ := hW; go_simp⟩) ?_
  refine wpAnyS_take (i := 7) (v := .slice A0 n0 c0) rfl (by kernel_rfl) (fun _ _ _ h => h) ⟨x0, x1⟩ (Or.inl ⟨rfl, fun W' hW => by obtain ⟨q0, q1⟩ := hW; go_simp⟩) ?_
  refine wpAnyS_step 8 rfl (by decide +kernel) ?_
  go_wp2_with fail
  refine (clone_any A0 n0 c0 l _ hsd (by omega)).mono ?_
  rintro e w3 ⟨v3, rfl, ho3, hb3⟩
  have hdz := hD.size
  have ho3' := ho3.mono hdz
  obtain ⟨A3, c3, rfl, _, _, _⟩ := ho3.forms
  rw [hn0] at ho3' ⊢
  have y0 := cell_below hb3 x0
  have y1 := cell_below hb3 x1
  have hbw := Below.next' hD hb3 hD.size
  go_wp2_with fail
  refine ⟨.inr ⟨y0, y1⟩, ?_⟩
  refine wpAnyS_step 9 rfl (by decide +kernel) ?_
  go_wp2_with fail
  refine ⟨.inl rfl, ?_⟩
  refine wpAnyS_step 10 rfl (by decide +kernel) ?_
  go_wp2_with fail
  refine ⟨.inl rfl, ?_⟩
  refine wpAnyS_step 11 rfl (by decide +kernel) ?_
  go_wp2_with fail
  refine ⟨.inl rfl, ?_⟩
  refine wpAnyS_done (by decide +kernel) (NoPanic.normal ?_)
  go_wp2
  go_ret3
  exact ⟨_, rfl, ho3', hbw⟩
end

end Go.Proofs.YtpbjianhkjjgkaaDoor

namespace Go.Proofs.YtpbjianhkjjgkaaDoor
open Go.RowKit

set_option maxHeartbeats 2000000 in
theorem find_nil (k s : ByteArray) (w : World) : Calls Tryd.prog 63 #[.pointer none, .string k, .string s] w fun e w' => e = .returned (.pointer none) ∧ w' = w := by
  go_enter Tryd.func63, Tryd.ntmps63
  go_wp2_with fail
  go_loopw [0] (fun p w' => p = .pointer none ∧ w' = w) (fun _ _ => 0)
  case atStart => exact ⟨rfl, rfl⟩
  case round =>
    obtain ⟨rfl, rfl⟩ := hrel
    go_wp2_with fail
    refine (nlen_nil _).mono ?_
    rintro e w1 ⟨rfl, rfl⟩
    go_wp2
    go_ret
    exact ⟨rfl, rfl⟩
theorem get_nil (k : ByteArray) (w : World) (hk : k.size ≤ 1000) (ht : Tab w) : Calls Tryd.prog 20 #[.pointer none, .string k] w fun e w' => e = .returned (.tuple #[.slice none 0 0, .bool false]) ∧ Below w.heap.size w w' := by
  go_enter Tryd.func20, Tryd.ntmps20
  go_wp2_with fail
  refine (keySum_any k _ hk ht).mono ?_
  rintro e w1 ⟨rfl, hb1⟩
  generalize (⟨(sha k.data.toList).toArray⟩ : ByteArray) = T at *
  go_wp2_with fail
  refine (find_nil k T _).mono ?_
  rintro e w2 ⟨rfl, rfl⟩
  go_wp2
  go_ret2
  exact ⟨rfl, hb1⟩
theorem del_nil (k : ByteArray) (w : World) (hk : k.size ≤ 1000) (ht : Tab w) : Calls Tryd.prog 30 #[.pointer none, .string k] w fun e w' => e = .returned (.pointer none) ∧ Below w.heap.size w w' := by
  go_enter Tryd.func30, Tryd.ntmps30
  go_wp2_with fail
  refine (keySum_any k _ hk ht).mono ?_
  rintro e w1 ⟨rfl, hb1⟩
  generalize (⟨(sha k.data.toList).toArray⟩ : ByteArray) = T at *
  go_wp2_with fail
  refine (find_nil k T _).mono ?_
  rintro e w2 ⟨rfl, rfl⟩
  go_wp2
  go_ret
  exact ⟨rfl, hb1⟩
theorem halves_nil (w : World) : Calls Tryd.prog 33 #[.pointer none] w fun e w' => e = .returned (.tuple #[.pointer none, .pointer none, .bool false]) ∧ w' = w := by
  go_enter Tryd.func33, Tryd.ntmps33
  go_wp2_with fail
  refine (nlen_nil _).mono ?_
  rintro e w1 ⟨rfl, rfl⟩
  go_wp2
  go_ret3
  exact ⟨rfl, rfl⟩
theorem leaf_nil (w : World) : Calls Tryd.prog 34 #[.pointer none] w fun e w' => e = .returned (.tuple #[.string ⟨#[]⟩, .slice none 0 0, .bool false]) ∧ w' = w := by
  go_enter Tryd.func34, Tryd.ntmps34
  go_wp2_with fail
  refine (nlen_nil _).mono ?_
  rintro e w1 ⟨rfl, rfl⟩
  go_wp2
  go_ret3
  exact ⟨rfl, rfl⟩
theorem ndigest_nil (w : World) (ht : Tab w) : Calls Tryd.prog 23 #[.pointer none] w fun e w' => e = .returned (.string ⟨(sha [0]).toArray⟩) ∧ Below w.heap.size w w' := by
  have he := empty_any w ht
  generalize (⟨(sha [0]).toArray⟩ : ByteArray) = T at *
  go_enter Tryd.func23, Tryd.ntmps23
  go_wp2_with fail
  refine he.mono ?_
  rintro e w1 ⟨rfl, hb1⟩
  go_wp2
  go_ret
  exact ⟨rfl, hb1⟩
theorem gather_nil (v : Value) (w : World) : Calls Tryd.prog 68 #[.pointer none, v] w fun e w' => e = .returned v ∧ w' = w := by
  go_enter Tryd.func68, Tryd.ntmps68
  go_wp2_with fail
  refine (nlen_nil _).mono ?_
  rintro e w1 ⟨rfl, rfl⟩
  go_wp2
  go_ret
  exact ⟨rfl, rfl⟩

set_option maxRecDepth 8000 in
set_option maxHeartbeats 2000000 in
theorem len64_zero (w : World) : Calls Tryd.prog 124 #[.int .u64 0] w fun e w' => e = .returned (.int .i64 0) ∧ w' = w := by
  go_enter Tryd.func124, Tryd.ntmps124
  go_wp2
  go_ret
  exact ⟨by kernel_rfl, rfl⟩
theorem bitsLen_zero (w : World) : Calls Tryd.prog 94 #[.int .u64 0] w fun e w' => e = .returned (.int .i64 0) ∧ w' = w := by
  go_enter Tryd.func94, Tryd.ntmps94
  go_wp2_with fail
  refine (len64_zero _).mono ?_
  rintro e w1 ⟨rfl, rfl⟩
  go_wp2
  go_ret
  exact ⟨rfl, rfl⟩
theorem insertion_none (v : Value) (w : World) : Calls Tryd.prog 114 #[v, .int .i64 0, .int .i64 0] w fun e w' => e = .returned (.tuple #[]) ∧ w' = w := by
  go_enter Tryd.func114, Tryd.ntmps114
  go_wp2_with fail
  go_loopw [6, 7] (fun p _ w' => p = .int .i64 1 ∧ w' = w) (fun _ _ _ => 0)
  case atStart => exact ⟨rfl, rfl⟩
  case round =>
    obtain ⟨rfl, rfl⟩ := hrel
    go_wp2
    go_end0
    exact ⟨rfl, rfl⟩
set_option maxHeartbeats 2000000 in
theorem pdq_none (v : Value) (w : World) : Calls Tryd.prog 93 #[v, .int .i64 0, .int .i64 0, .int .i64 0] w fun e w' => e = .returned (.tuple #[]) ∧ w' = w := by
  go_enter Tryd.func93, Tryd.ntmps93
  go_wp2_with fail
  go_loopw [1, 2, 3, 8, 9, 10, 11, 12] (fun a b c _ _ _ _ _ w' => a = .int .i64 0 ∧ b = .int .i64 0 ∧ c = .int .i64 0 ∧ w' = w) (fun _ _ _ _ _ _ _ _ _ => 0)
  case atStart => exact ⟨rfl, rfl, rfl, rfl⟩
  case round =>
    obtain ⟨rfl, rfl, rfl, rfl⟩ := hrel
    go_wp2_with fail
    refine (insertion_none v _).mono ?_
    rintro e w1 ⟨rfl, rfl⟩
    go_wp2
    refine bodyPost_ret (results_none rfl _ _ _) rfl ?_
    exact ⟨rfl, rfl⟩
theorem sort_none (A : Option Addr) (c : Nat) (w : World) : Calls Tryd.prog 69 #[.slice A 0 c] w fun e w' => e = .returned (.tuple #[]) ∧ w' = w := by
  go_enter Tryd.func69, Tryd.ntmps69
  go_wp2_with fail
  refine (bitsLen_zero _).mono ?_
  rintro e w1 ⟨rfl, rfl⟩
  go_wp2_with fail
  refine (pdq_none _ _).mono ?_
  rintro e w2 ⟨rfl, rfl⟩
  go_wp2
  go_end0
  exact ⟨rfl, rfl⟩
theorem strInfo : (Tryd.prog.info? 9).map (fun i => (i.zero, i.size, i.bytes)) = some (some (.string ⟨#[]⟩), 1, 16) := by kernel_rfl
set_option maxRecDepth 8000 in
set_option maxHeartbeats 2000000 in
theorem keys_nil (w : World) : Calls Tryd.prog 27 #[.pointer none] w fun e w' => (∃ A c, e = .returned (.slice A 0 c)) ∧ Below w.heap.size w w' := by
  go_enter Tryd.func27, Tryd.ntmps27
  go_wp2_with fail
  refine (nlen_nil _).mono ?_
  rintro e w1 ⟨rfl, rfl⟩
  obtain ⟨i, hi, hz0, hz1, hz2⟩ := info_parts strInfo
  go_wp2_with (at_make
               refine wpList_make_own _ rfl (.const (.int .i64 0)) (.tmp 6) _ rfl w1.heap.size 9 i _ 1 Tryd.underlying38 hi hz0 hz1 .i64 .i64 0 0 rfl rfl (by omega) (by rw [hz2]; omega) (by simp only [maxLen]; omega) (Nat.le_refl _) ?_
               intro w2 ho2 hg2
               have hb2 : Below w1.heap.size w1 w2 := (Below.refl _ _).grown hg2 (Nat.le_refl _) (by intro k hk; cases hk)
               clear ho2 hg2 hi hz0 hz1 hz2 i)
  refine (gather_nil _ _).mono ?_
  rintro e w3 ⟨rfl, rfl⟩
  go_wp2_with fail
  refine (sort_none _ _ _).mono ?_
  rintro e w4 ⟨rfl, rfl⟩
  go_wp2
  go_ret
  exact ⟨⟨_, _, rfl⟩, hb2⟩

end Go.Proofs.YtpbjianhkjjgkaaDoor
