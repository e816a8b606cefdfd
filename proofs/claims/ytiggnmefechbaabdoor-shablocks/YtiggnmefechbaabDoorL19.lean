/-
  The walk of the law ShaBlocks.
-/
import Derived.Test.YtiggnmefechbaabDoorWD2
import Derived.OpenShut
import Derived.Deep.RegionWith
namespace Go.Proofs.YtiggnmefechbaabDoor
open Go.RowKit

/-- 'make([]byte, r)', the world written out. -/
theorem make_exact (W : World) (r : Nat) (hr : r ≤ 100000) : (Instr.makeSlice 22 (.int .i64 (r : Int)) (.int .i64 (r : Int))).run Tryd.prog W = .ok (.slice (some ⟨W.heap.size, 0, none⟩) r r) (W.alloc (.cells (cellsB (List.replicate r 0)).toArray 5)) := by
  obtain ⟨i, hi, hz0, hz1, hz2⟩ := info_parts bt.hi
  have h := run_make (P := Tryd.prog) W 22 5 i _ bt.ht hi hz0 .i64 .i64 r r (by omega) (Int.le_refl _) (by rw [hz2]; omega) (by omega)
  simp only [Int.toNat_natCast] at h
  rw [h, hz1, Nat.mul_one]
  have e : madeCells (Value.int IntKind.u8 0).cells r = (cellsB (List.replicate r 0)).toArray := by
    apply Array.toList_inj.1
    exact (toList_madeCells_one _ r).trans (by simp [cellsB])
  rw [e]
theorem Seg.made (W : World) (r g : Nat) (hg : g = W.heap.size) : Seg (W.alloc (.cells (cellsB (List.replicate r 0)).toArray 5)) (some ⟨g, 0, none⟩) r (List.replicate r 0) :=
  Seg.newAt _ _ _ _ _ _ hg rfl (by simp)

theorem bel1 (w : World) (o : Obj) : Below w.heap.size w (w.alloc o).drew := ((Below.refl _ _).alloc (Nat.le_refl _) _).drew
theorem bel2 (w : World) (o p : Obj) : Below w.heap.size w ((w.alloc o).alloc p).drew := (((Below.refl _ _).alloc (Nat.le_refl _) _).alloc (by simp) _).drew
theorem bel1s (w : World) (o : Obj) : w.heap.size ≤ (w.alloc o).drew.heap.size := by simp
theorem bel2s (w : World) (o p : Obj) : w.heap.size ≤ ((w.alloc o).alloc p).drew.heap.size := by simp; omega
theorem bel3s (w : World) (k : Nat) (o : Obj) (h : k ≤ w.heap.size) : k ≤ (w.alloc o).heap.size := by simp; omega

set_option maxRecDepth 8000 in
set_option maxHeartbeats 4000000 in
theorem shaBlocks_core (A : Option Addr) (n c : Nat) (l : List UInt8) (x y : Int) (w : World) (ha : Seg w A n l) (hx0 : 0 ≤ x) (_ : x ≤ 255) (hy0 : 0 ≤ y) (_ : y ≤ 255) (ht : Tab w) (hn : n ≤ 100) :
    Calls Tryd.prog 7 #[.slice A n c, .int .u8 x, .int .u8 y] w fun e w' => e = .returned (.bool true) ∧ Below w.heap.size w w' := by
  have hd : decide ((100 : Int) < (n : Int)) = false := decide_eq_false (by omega)
  obtain ⟨a, ha0⟩ : ∃ a : Nat, x % 80 = (a : Int) := ⟨(x % 80).toNat, by omega⟩
  obtain ⟨b, hb0⟩ : ∃ b : Nat, y % 80 = (b : Int) := ⟨(y % 80).toNat, by omega⟩
  have ha1 : a < 80 := by omega
  have hb1 : b < 80 := by omega
  have tx : x.tmod 80 = (a : Int) := by rw [Int.tmod_eq_emod_of_nonneg hx0]; exact ha0
  have ty : y.tmod 80 = (b : Int) := by rw [Int.tmod_eq_emod_of_nonneg hy0]; exact hb0
  have wx : IntKind.u8.wrap (a : Int) = (a : Int) := IntWalk.u8_in _ (by omega)
  have wy : IntKind.u8.wrap (b : Int) = (b : Int) := IntWalk.u8_in _ (by omega)
  have vx : IntKind.i64.wrap (a : Int) = (a : Int) := IntWalk.i64_in _ (by omega)
  have vy : IntKind.i64.wrap (b : Int) = (b : Int) := IntWalk.i64_in _ (by omega)
  have mx := fun W => make_exact W a (by omega)
  have my := fun W => make_exact W b (by omega)
  go_enter Tryd.func7, Tryd.ntmps7
  go_wp2_with fail
  obtain ⟨q, hq⟩ : ∃ q, List.replicate a 0 ++ l ++ List.replicate b 0 = q := ⟨_, rfl⟩
  have HQ := Lib.hid hq
  have hql : q.length ≤ 300 := by
    rw [← hq]
    simp only [List.length_append, List.length_replicate, ha.1]
    omega
  have HQL := Lib.hid hql
  have HLN := Lib.hid ha.1
  clear hq hql
  go_cut [7] (fun v wc => ∃ A' c', v = .slice A' q.length c' ∧ Seg wc A' q.length q ∧ Below w.heap.size w wc)
  case first =>
    go_region_with (first
      | (go_at_call_of 15 c
         refine (join_any _ A a n a c (List.replicate a 0) l _ ?_ ?_ ?_).mono ?_
         · first | exact Seg.drew (Seg.made _ _ _ rfl) | exact Seg.drew (Seg.alloc (Seg.made _ _ _ rfl) _) | exact Seg.drew (Seg.made _ _ _ (World.size_alloc _ _).symm)
         · first | exact Seg.drew (Seg.alloc ha _) | exact Seg.drew (Seg.alloc (Seg.alloc ha _) _)
         · omega
         rintro e w1 ⟨v1, rfl, ho1, hb9⟩
         have hB1 : Below w.heap.size w w1 := by first | exact Below.next' (bel1 _ _) hb9 (bel1s _ _) | exact Below.next' (bel2 _ _ _) hb9 (bel2s _ _ _)
         obtain ⟨d1, hd1⟩ : ∃ d1, List.replicate a 0 ++ l = d1 := ⟨_, rfl⟩
         rw [hd1] at ho1
         have HD1 := Lib.hid hd1
         clear hd1
         obtain ⟨A1, c1, rfl, hs1, hlc1, hcm1⟩ := ho1.forms
         (try have hM := (Seg.drew (Seg.made (w.alloc (.cells (cellsB (List.replicate a 0)).toArray 5)) b (w.heap.size + 1) (World.size_alloc _ _).symm)).below hb9)
         (try have hM := (Seg.drew (Seg.alloc (Seg.made w b w.heap.size rfl) (.cells (cellsB (List.replicate a 0)).toArray 5))).below hb9)
         clear ho1 hb9)
      | (go_at_call 15
         refine (join_any A1 _ d1.length b c1 b d1 (List.replicate b 0) _ ?_ ?_ ?_).mono ?_
         · first | exact hs1 | exact Seg.alloc hs1 _
         · first | exact hM | exact Seg.made _ _ _ rfl
         · rw [← HD1.out, List.length_append, List.length_replicate, HLN.out]; omega
         rintro e w3 ⟨v3, rfl, ho3, hb3⟩
         have hB3 : Below w.heap.size w w3 := by first | exact Below.next' hB1 hb3 hB1.size | exact Below.next' (hB1.alloc hB1.size _) hb3 (bel3s _ _ _ hB1.size)
         rw [← HD1.out, HQ.out] at ho3
         obtain ⟨A3, c3, rfl, hs3, hlc3, hcm3⟩ := ho3.forms))
    all_goals go_wp2_with fail
    all_goals go_meet
    all_goals exact ⟨A3, c3, rfl, hs3, hB3⟩
  case rest =>
    obtain ⟨A', c', rfl, hsq, hbw⟩ := hcut
    clear mx my tx ty wx wy vx vy ha0 hb0 hx0 hy0
    go_wp2_with fail
    refine (abc_any _ (Tab.below ht hbw)).mono ?_
    rintro e w2 ⟨rfl, hb2⟩
    have hs2 := hsq.below hb2
    have hbw2 : Below w.heap.size w w2 := Below.next' hbw hb2 hbw.size
    clear hb2 hsq
    go_wp2_with fail
    refine (sum_any A' _ c' q _ hs2 (by have := HQL.out; omega) (Tab.below ht hbw2)).mono ?_
    rintro e w3 ⟨rfl, hb3⟩
    have hs3 := hs2.below hb3
    have hbw3 : Below w.heap.size w w3 := Below.next' hbw2 hb3 hbw2.size
    clear hb3 hs2
    go_wp2_with fail
    refine (rsum_any A' _ c' q _ hs3 (by have := HQL.out; omega)).mono ?_
    rintro e w4 ⟨rfl, hb4⟩
    have hbw4 : Below w.heap.size w w4 := Below.next' hbw3 hb4 hbw3.size
    go_wp2
    go_ret
    exact ⟨rfl, hbw4⟩

set_option maxRecDepth 8000 in
set_option maxHeartbeats 4000000 in
theorem shaBlocks_walk (A : Option Addr) (n c : Nat) (l : List UInt8) (x y : Int) (w : World) (ha : Seg w A n l) (_ : n ≤ c) (_ : c ≤ maxLen) (hx : (Lit.int .u8 x).wf = true) (hy : (Lit.int .u8 y).wf = true) (ht : Tab w) :
    Calls Tryd.prog 7 #[.slice A n c, .int .u8 x, .int .u8 y] w fun e w' => e = .returned (.bool true) ∧ Below w.heap.size w w' := by
  by_cases h100 : n ≤ 100
  · exact shaBlocks_core A n c l x y w ha (bounds_u8 hx).1 (bounds_u8 hx).2 (bounds_u8 hy).1 (bounds_u8 hy).2 ht h100
  · have hd : decide ((100 : Int) < (n : Int)) = true := decide_eq_true (by omega)
    clear hx hy
    go_enter Tryd.func7, Tryd.ntmps7
    go_wp2_with fail
    refine (abc_any _ ht).mono ?_
    rintro e w1 ⟨rfl, hb1⟩
    go_wp2
    go_ret
    exact ⟨rfl, hb1⟩

end Go.Proofs.YtiggnmefechbaabDoor
