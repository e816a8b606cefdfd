/-
  The walk of the law MarkOwn.
-/
import Derived.Test.YtocmpinpfhfcoaaDoorWM4
import Derived.OpenShut
namespace Go.Proofs.YtocmpinpfhfcoaaDoor
open Go.RowKit

theorem own_arB {w : World} {base : Nat} {e : TypeId} {g n c : Nat} {l : List UInt8} (h : Own w base e (.slice (some ⟨g, 0, none⟩) n c) l) : ArB w g 0 l := by
  obtain ⟨A, c', hv, hs, _, _⟩ := h.forms
  injection hv with hA hn hc
  subst hA
  rcases h.2 with ⟨hx, _⟩ | ⟨g', cap, cur, hx, _, hg, _, _, _, _⟩
  · cases hx
  · injection hx with hA2 _ _
    injection hA2 with hA2
    injection hA2 with hA3 _
    subst hA3
    refine ⟨fun j hj => ?_, fun j hj => ?_⟩
    · rw [hs.cell rfl hj, getD_drop4 l j hj]
    · simp [World.frozen?, hg]

set_option maxRecDepth 8000 in
set_option maxHeartbeats 4000000 in
theorem markOwn_core (k : ByteArray) (A : Option Addr) (n c : Nat) (l : List UInt8) (y : Int) (b : UInt8) (hy : y = (b.toNat : Int)) (w : World) (ha : Seg w A n l) (ht : Tab w) :
    Calls Tryd.prog 6 #[.string k, .slice A n c, .int .u8 y] w fun e w' => e = .returned (.bool true) ∧ Below w.heap.size w w' := by
  have HY := Lib.hid hy
  clear hy
  by_cases hall : k.size ≤ 60 ∧ n ≤ 60
  · obtain ⟨h1, h2⟩ := hall
    have hd0 : decide ((60 : Int) < (k.size : Int)) = false := decide_eq_false (by omega)
    have hd1 : decide ((60 : Int) < (n : Int)) = false := decide_eq_false (by omega)
    have hkl : k.data.toList.length = k.size := by simp
    have HLN := Lib.hid ha.1
    obtain ⟨d, hd⟩ : ∃ d, leafL k.data.toList l = d := ⟨_, rfl⟩
    have DL := Lib.hid (show d.length ≤ 125 by rw [← hd, leafL_length, hkl, ha.1]; omega)
    have HD := Lib.hid hd
    clear hkl hd
    go_enter Tryd.func6, Tryd.ntmps6
    go_wp2_with fail
    refine (join_any A none n 0 c 0 l [] _ ha (Seg.nil _ _) (by omega)).mono ?_
    rintro e w1 ⟨v1, rfl, ho1, hb1⟩
    rw [List.append_nil] at ho1
    obtain ⟨A1, c1, rfl, hs1, _, _⟩ := ho1.forms
    rw [HLN.out] at ho1 hs1
    rw [HLN.out]
    go_wp2_with fail
    refine (leafB_any k A1 n c1 l _ hs1 (by omega) (by omega)).mono ?_
    rw [HD.out]
    rintro e w2 ⟨v2, rfl, ho2, hb2⟩
    obtain ⟨A2, c2, rfl, hs2, _, _⟩ := ho2.forms
    have hbw2 : Below w.heap.size w w2 := Below.next' hb1 hb2 hb1.size
    go_wp2_with fail
    refine (join_any A2 none d.length 0 c2 0 d [] _ hs2 (Seg.nil _ _) (by have := DL.out; omega)).mono ?_
    rintro e w3 ⟨v3, rfl, ho3, hb3⟩
    rw [List.append_nil] at ho3
    obtain ⟨A3, c3, rfl, hs3, _, _⟩ := ho3.forms
    have hbw3 : Below w.heap.size w w3 := Below.next' hbw2 hb3 hbw2.size
    have ho23 := ho2.below hb3
    have ho13 := (ho1.below hb2).below hb3
    have hz1 := hb1.size
    have hz2 := hb2.size
    by_cases h0 : n = 0
    · subst h0
      clear hs1 hs2 hs3 ho1 ho2 hb1 hb2 hb3 hbw2 ho13
      go_wp2_with fail
      go_loopw [10] (fun i w' => i = .int .i64 0 ∧ w' = w3) (fun _ _ => 0)
      case atStart => exact ⟨rfl, rfl⟩
      case round =>
        obtain ⟨rfl, rfl⟩ := hrel
        obtain ⟨_, _, e2, hp2, _, _⟩ := ho23.forms
        injection e2 with e21 _ e22
        subst e21 e22
        obtain ⟨_, _, e3, hp3, _, _⟩ := ho3.forms
        injection e3 with e31 _ e32
        subst e31 e32
        have hbw4 := hbw3
        clear hbw3 ho23 ho3 hz1 hz2
        go_wp2_with fail
        refine (long_any _ (Tab.below ht hbw4)).mono ?_
        rintro e w5 ⟨rfl, hb5⟩
        have hbw5 : Below w.heap.size w w5 := Below.next' hbw4 hb5 hbw4.size
        have hs2 := hp2.below hb5
        have hs3 := hp3.below hb5
        clear hb5 hbw4 hp2 hp3
        go_wp2_with fail
        refine (bytes_any A2 A3 _ _ c2 c3 d d _ hs2 hs3 (by have := DL.out; simp only [maxLen]; omega)).mono ?_
        rintro e w6 ⟨rfl, u, rfl⟩
        rw [show (d == d) = true by simp]
        have hbw6 : Below w.heap.size w (w5.drewN u) := Below.drewN' hbw5 u
        have hs2' := hs2.drewN u
        clear hbw5 hs2 hs3
        generalize w5.drewN u = w6 at *
        go_wp2_with fail
        refine (rleafB_any k A 0 c l _ (ha.below hbw6) (by omega) (by omega)).mono ?_
        rw [HD.out]
        rintro e w7 ⟨v7, rfl, ho7, hb7⟩
        obtain ⟨A7, c7, rfl, hs7, _, _⟩ := ho7.forms
        have hbw7 : Below w.heap.size w w7 := Below.next' hbw6 hb7 hbw6.size
        have hs2 := hs2'.below hb7
        clear ho7 hb7 hbw6 hs2'
        go_wp2_with fail
        refine (bytes_any A2 A7 _ _ c2 c7 d d _ hs2 hs7 (by have := DL.out; simp only [maxLen]; omega)).mono ?_
        rintro e w8 ⟨rfl, u, rfl⟩
        rw [show (d == d) = true by simp]
        have hbw8 : Below w.heap.size w (w7.drewN u) := Below.drewN' hbw7 u
        go_wp2
        go_ret
        exact ⟨rfl, hbw8⟩
    · obtain ⟨g, o, rfl, _⟩ := hs1.2 (by omega)
      have hgo : o = 0 ∧ w.heap.size ≤ g ∧ g < w1.heap.size := by
        have hlt := ho1.lt
        rcases ho1.2 with ⟨hx, _⟩ | ⟨g', cap, cur, hx, _⟩
        · cases hx
        · injection hx with hA2 _ _
          injection hA2 with hA2
          injection hA2 with hA3 hA4
          subst hA3 hA4
          exact ⟨rfl, hlt g rfl⟩
      obtain ⟨rfl, hg0, hg1⟩ := hgo
      have hB := own_arB ho13
      clear hs1 hs2 hs3 ho1 ho2 hb1 hb2 hb3 hbw2 ho13
      go_wp2_with fail
      go_loopw [10] (fun i w' => ∃ (j : Nat) (lq : List UInt8), j ≤ n ∧ i = .int .i64 j ∧ lq.length = n ∧ ArB w' g 0 lq ∧ Below w.heap.size w w' ∧ Own w' w1.heap.size 5 (.slice A2 d.length c2) d ∧ Own w' w2.heap.size 5 (.slice A3 d.length c3) d) (fun i _ => n - (intOf i).toNat)
      case atStart => exact ⟨0, l, by omega, rfl, HLN.out, hB, hbw3, ho23, ho3⟩
      case round =>
        clear hB hbw3 ho23 ho3
        obtain ⟨j, lq, hj, rfl, hl, hB, hbw4, ho23, ho3⟩ := hrel
        by_cases hlt : j < n
        · have q0 := hB.1 j (by omega)
          have f0 := hB.2 j (by omega)
          simp only [Nat.zero_add] at q0 f0
          generalize lq.getD j 0 = b9 at *
          have HL := Lib.hid hl
          clear hl
          go_wp2
          go_roundw
          case rel =>
            refine ⟨j + 1, lq.set j b, hlt, by go_num, by rw [List.length_set]; exact HL.out, ?_, hbw4.setCell hg0 _, ho23.setCell hg1 _, ho3.setCell (Nat.lt_of_lt_of_le hg1 hz2) _⟩
            have := hB.set j (by rw [HL.out]; exact hlt) b _ HY.out
            rw [Nat.zero_add] at this
            exact this
          case measure => simp [intOf]; omega
        · obtain rfl : j = n := by omega
          obtain ⟨_, _, e2, hp2, _, _⟩ := ho23.forms
          injection e2 with e21 _ e22
          subst e21 e22
          obtain ⟨_, _, e3, hp3, _, _⟩ := ho3.forms
          injection e3 with e31 _ e32
          subst e31 e32
          clear hB ho23 ho3 hz1 hz2 hl
          go_wp2_with fail
          refine (long_any _ (Tab.below ht hbw4)).mono ?_
          rintro e w5 ⟨rfl, hb5⟩
          have hbw5 : Below w.heap.size w w5 := Below.next' hbw4 hb5 hbw4.size
          have hs2 := hp2.below hb5
          have hs3 := hp3.below hb5
          clear hb5 hbw4 hp2 hp3
          go_wp2_with fail
          refine (bytes_any A2 A3 _ _ c2 c3 d d _ hs2 hs3 (by have := DL.out; simp only [maxLen]; omega)).mono ?_
          rintro e w6 ⟨rfl, u, rfl⟩
          rw [show (d == d) = true by simp]
          have hbw6 : Below w.heap.size w (w5.drewN u) := Below.drewN' hbw5 u
          have hs2' := hs2.drewN u
          clear hbw5 hs2 hs3
          generalize w5.drewN u = w6 at *
          go_wp2_with fail
          refine (rleafB_any k A j c l _ (ha.below hbw6) (by omega) (by omega)).mono ?_
          rw [HD.out]
          rintro e w7 ⟨v7, rfl, ho7, hb7⟩
          obtain ⟨A7, c7, rfl, hs7, _, _⟩ := ho7.forms
          have hbw7 : Below w.heap.size w w7 := Below.next' hbw6 hb7 hbw6.size
          have hs2 := hs2'.below hb7
          clear ho7 hb7 hbw6 hs2'
          go_wp2_with fail
          refine (bytes_any A2 A7 _ _ c2 c7 d d _ hs2 hs7 (by have := DL.out; simp only [maxLen]; omega)).mono ?_
          rintro e w8 ⟨rfl, u, rfl⟩
          rw [show (d == d) = true by simp]
          have hbw8 : Below w.heap.size w (w7.drewN u) := Below.drewN' hbw7 u
          go_wp2
          go_ret
          exact ⟨rfl, hbw8⟩
  · have hc : 60 < k.size ∨ k.size ≤ 60 ∧ 60 < n := by omega
    rcases hc with g0 | ⟨g0, g1⟩
    · have hd0 : decide ((60 : Int) < (k.size : Int)) = true := decide_eq_true (by omega)
      go_enter Tryd.func6, Tryd.ntmps6
      go_wp2_with fail
      refine (long_any _ ht).mono ?_
      rintro e w1 ⟨rfl, hb1⟩
      go_wp2
      go_ret
      exact ⟨rfl, hb1⟩
    · have hd0 : decide ((60 : Int) < (k.size : Int)) = false := decide_eq_false (by omega)
      have hd1 : decide ((60 : Int) < (n : Int)) = true := decide_eq_true (by omega)
      go_enter Tryd.func6, Tryd.ntmps6
      go_wp2_with fail
      refine (long_any _ ht).mono ?_
      rintro e w1 ⟨rfl, hb1⟩
      go_wp2
      go_ret
      exact ⟨rfl, hb1⟩

theorem markOwn_walk (k : ByteArray) (A : Option Addr) (n c : Nat) (l : List UInt8) (y : Int) (w : World) (_ : k.size ≤ maxLen) (ha : Seg w A n l) (_ : n ≤ c) (_ : c ≤ maxLen) (hy : (Lit.int .u8 y).wf = true) (ht : Tab w) :
    Calls Tryd.prog 6 #[.string k, .slice A n c, .int .u8 y] w fun e w' => e = .returned (.bool true) ∧ Below w.heap.size w w' := by
  have h0 := (bounds_u8 hy).1
  have h1 := (bounds_u8 hy).2
  exact markOwn_core k A n c l y (UInt8.ofNat y.toNat) (by rw [UInt8.toNat_ofNat', Nat.mod_eq_of_lt (by omega)]; omega) w ha ht

end Go.Proofs.YtocmpinpfhfcoaaDoor
