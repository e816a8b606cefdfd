/-
  The walk of the law OrderTurned.
-/
import Derived.Test.YtkihpnfehjmpiaaL11
namespace Go.Proofs.Ytkihpnfehjmpiaa
open Go.RowKit

theorem ofW_allT {l : List V} (h : ∀ x ∈ l, x.Wide) : ∀ v ∈ l.map ofW, v.Ok := by
  intro v hv
  simp only [List.mem_map] at hv
  obtain ⟨x, hx, rfl⟩ := hv
  have := h x hx
  exact ofW_ok x this.2.2.1 this.2.2.2.1
theorem wideT {l : List V} (h : ∀ x ∈ l, x.Wide) : ∀ x ∈ l, 0 ≤ x.k ∧ x.k ≤ 255 ∧ x.s.size ≤ maxLen := fun x hx =>
  ⟨(h x hx).1, (h x hx).2.1, (h x hx).2.2.2.2⟩

theorem cellsB_set (l : List UInt8) (i : Nat) (c : UInt8) : cellsB (l.set i c) = (cellsB l).set i (.int .u8 (c.toNat : Int)) := by
  unfold cellsB
  rw [List.map_set]

/-- A row of the call's own, one byte of which is written over. -/
theorem own_set {w1 : World} {B : Nat} {v1 : Value} {l : List UInt8} (ho : Own w1 B 5 v1 l) (i : Nat) (hi : i < l.length) :
    ∃ g cap, v1 = .slice (some ⟨g, 0, none⟩) l.length cap ∧ B ≤ g ∧ g < w1.heap.size ∧ w1.cell? ⟨g, i, none⟩ = some (.int .u8 (l[i].toNat : Int)) ∧ w1.frozen? ⟨g, i, none⟩ = false ∧ l.length ≤ cap ∧ cap ≤ maxLen ∧
      ∀ c : UInt8, Seg (w1.setCell ⟨g, i, none⟩ (.int .u8 (c.toNat : Int))) (some ⟨g, 0, none⟩) l.length (l.set i c) := by
  rcases hh : ho.2 with ⟨_, hz⟩ | ⟨g, cap, cur, e, hb, hg, h3, h4, h5, h6⟩
  · omega
  · subst e
    have hown : w1.ownsRow B 5 1 (.slice (some ⟨g, 0, none⟩) l.length cap) l.length (cellsB l) := ho
    have hc1 : w1.cell? ⟨g, i, none⟩ = some (.int .u8 (l[i].toNat : Int)) := by
      obtain ⟨A9, c9, e9, hs9, _, _⟩ := ho.forms
      injection e9 with e9a
      have h := hs9.cell e9a.symm (k := i) hi
      rw [Nat.zero_add] at h
      exact h
    refine ⟨g, cap, rfl, hb, World.block_lt_of_cell? w1 _ hc1, hc1, hown.frozenAt i, h3, h4, fun c => ?_⟩
    have hst := (hown.stored i (.int .u8 (c.toNat : Int))).1
    have h9 : Own (w1.setCell ⟨g, i, none⟩ (.int .u8 (c.toNat : Int))) B 5 (.slice (some ⟨g, 0, none⟩) l.length cap) (l.set i c) := by
      unfold Own
      rw [List.length_set, cellsB_set]
      exact hst
    obtain ⟨A9, c9, e9, hs9, _, _⟩ := h9.forms
    injection e9 with e9a
    rw [e9a]
    rw [List.length_set] at hs9
    exact hs9

theorem backP_of {w w' : World} {l : List UInt8} {e : Ending} {D : List V} {x : Int} (hD : (back l).getD [] = D) (hx : (if (back l).isSome then (0 : Int) else 2) = x) (h : BackP w l e w') : ∃ v, e = .returned (.tuple #[v, .int .i64 x]) ∧ OwnV w' w.heap.size 26 v D ∧ Below w.heap.size w w' := by
  subst hD hx
  exact h

theorem backD_len (p : List UInt8) : ((back p).getD []).length ≤ p.length := by
  rcases h : back p with _ | L
  · simp
  · have h2 := (key_back p.length p L (Nat.le_refl _) h).2
    have := keyOf_ge L
    rw [h2] at this
    exact this

set_option maxHeartbeats 2000000 in
theorem orderTurned_walk (A : Option Addr) (n c : Nat) (l : List V) (k b : Int) (cut : Bool) (B : Option Addr) (m d : Nat) (r : List UInt8) (w : World) (ha : SegV w A n l) (_ : n ≤ c) (_ : c ≤ maxLen) (hwl : ∀ x ∈ l, x.Wide) (hk : (Lit.int .u16 k).wf = true) (hb : (Lit.int .u8 b).wf = true) (hB : Seg w B m r) (_ : m ≤ d) (_ : d ≤ maxLen) :
    Calls Try.prog 12 #[.slice A n c, .int .u16 k, .int .u8 b, .bool cut, .slice B m d] w fun e w' => e = .returned (.bool true) ∧ Below w.heap.size w w' := by
  have hk0 := (bounds_u16 hk).1
  have hk1 := (bounds_u16 hk).2
  have hb0 := (bounds_u8 hb).1
  have hb1 := (bounds_u8 hb).2
  obtain ⟨b, rfl⟩ : ∃ x : UInt8, b = (x.toNat : Int) := ⟨UInt8.ofNat b.toNat, by rw [UInt8.toNat_ofNat']; omega⟩
  have hvl := ofW_allT hwl
  have hll : (l.map ofW).length = n := by rw [List.length_map, ha.1]
  clear hk hb hb0 hb1
  by_cases h1 : n ≤ 12
  · have h1' : decide ((n : Int) ≤ 12) = true := decide_eq_true (by omega)
    by_cases hm : m ≤ 20
    · have hm' : ¬ (20 : Int) < (m : Int) := by omega
      go_enter Try.func12, Try.ntmps12
      go_wp2_with fail
      refine (nought_any _).mono ?_
      rintro e w1 ⟨rfl, hb1⟩
      go_wp2_with fail
      refine (small_any A n c _).mono ?_
      rintro e w' ⟨rfl, rfl⟩
      go_wp2_with fail
      refine (values_any A n c l _ (ha.below hb1) (by omega) (wideT hwl)).mono ?_
      rintro e w2 ⟨r2, rfl, ho2, hb2⟩
      have hbw2 : Below w.heap.size w w2 := Below.next' hb1 hb2 hb1.size
      generalize l.map ofW = L at *
      obtain ⟨A2, c2, rfl, hs2, hlc2, hcm2⟩ := ho2.forms
      rw [hll] at hs2 hlc2 ⊢
      clear ho2 hb2
      have hkl := keyOf_len L hvl
      have hkg := keyOf_ge L
      rw [hll] at hkl hkg
      have HLL := Lib.hid hll
      clear hll
      go_wp2_with fail
      refine (key_any A2 n c2 L _ hs2 (by omega) hvl).mono ?_
      rintro e w3 ⟨r3, rfl, ho3, hb3⟩
      have hbw3 : Below w.heap.size w w3 := Below.next' hbw2 hb3 hbw2.size
      generalize keyOf L = K at *
      obtain ⟨A3, c3, rfl, hs3, hlc3, hcm3⟩ := ho3.forms
      clear ho3 hb3 hs2
      by_cases hN : K.length = 0
      · have hn0 : n = 0 := by omega
        subst hn0
        rw [hN]
        go_wp2
        go_ret
        exact ⟨rfl, hbw3⟩
      · generalize hKN : K.length = N at *
        have HKN := Lib.hid hKN
        clear hKN
        obtain ⟨i, hi⟩ : ∃ i : Nat, k % (N : Int) = (i : Int) := ⟨(k % (N : Int)).toNat, by have := Int.emod_nonneg k (show (N : Int) ≠ 0 by omega); omega⟩
        have hiN : i < N := by have := Int.emod_lt_of_pos k (show (0 : Int) < (N : Int) by omega); omega
        have hne0 : ((N : Int) == 0) = false := by rw [beq_eq_false_iff_ne]; omega
        go_wp2_with fail
        refine (join_any A3 B N m c3 d K r _ hs3 (hB.below hbw3) (by omega)).mono ?_
        rintro e w4 ⟨r4, rfl, ho4, hb4⟩
        have hbw4 : Below w.heap.size w w4 := Below.next' hbw3 hb4 hbw3.size
        have hPl : (K ++ r).length = N + m := by rw [List.length_append, HKN.out, hB.1]
        replace ho4 := ho4.mono hbw3.size
        generalize K ++ r = P at *
        clear hb4 hs3 hB
        rcases cut with _ | _
        · obtain ⟨g, cap, rfl, hg, hgl, hcl, hfr, hcap1, hcap2, hset⟩ := own_set ho4 i (by omega)
          rw [hPl] at hset hcap1 ⊢
          have hsp := hset b
          have hbp : Below w.heap.size w (w4.setCell ⟨g, i, none⟩ (.int .u8 (b.toNat : Int))) := hbw4.setCell hg _
          have hlP : (P.set i b).length ≤ 1000000 := by rw [List.length_set]; omega
          have hip : (i : Int) < (N : Int) + (m : Int) := by omega
          clear hset ho4
          generalize P.set i b = Q at *
          obtain ⟨D, hD⟩ : ∃ D, (back Q).getD [] = D := ⟨_, rfl⟩
          obtain ⟨x, hx⟩ : ∃ x : Int, (if (back Q).isSome then 0 else 2) = x := ⟨_, rfl⟩
          have hdl : D.length ≤ 1000000 := by have := backD_len Q; rw [hD] at this; omega
          have HD := Lib.hid hD
          have HX := Lib.hid hx
          clear hD hx
          go_wp2_with fail
          refine (back_any _ (N + m) _ Q _ hsp (by omega) (by omega) (by omega)).mono ?_
          rintro e w5 hP
          obtain ⟨r5, rfl, ho5, hb5⟩ := backP_of HD.out HX.out hP
          clear hP
          have hbw5 : Below w.heap.size w w5 := Below.next' hbp hb5 hbp.size
          replace hsp := hsp.below hb5
          obtain ⟨A5, c5, rfl, hs5, hlc5, hcm5⟩ := ho5.forms
          clear ho5 hb5
          go_wp2_with fail
          refine (rback_any _ (N + m) _ Q _ hsp (by omega) (by omega) (by omega)).mono ?_
          rintro e w6 hP
          obtain ⟨r6, rfl, ho6, hb6⟩ := backP_of HD.out HX.out hP
          clear hP
          have hbw6 : Below w.heap.size w w6 := Below.next' hbw5 hb6 hbw5.size
          replace hs5 := hs5.below hb6
          obtain ⟨A6, c6, rfl, hs6, hlc6, hcm6⟩ := ho6.forms
          clear ho6 hb6 hsp
          go_wp2_with fail
          refine (sameL_yes A5 A6 _ _ c5 c6 D _ hs5 hs6 (by omega)).mono ?_
          rintro e w7 ⟨rfl, hb7⟩
          go_wp2
          go_ret
          exact ⟨rfl, Below.next' hbw6 hb7 hbw6.size⟩
        · obtain ⟨A4, c4, rfl, hs4, hlc4, hcm4⟩ := ho4.forms
          rw [hPl] at hs4 hlc4 ⊢
          have hsp := hs4.upto i (by omega)
          have hbp := hbw4
          have hlP : (P.take i).length ≤ 1000000 := by rw [List.length_take]; omega
          clear ho4 hs4
          generalize P.take i = Q at *
          obtain ⟨D, hD⟩ : ∃ D, (back Q).getD [] = D := ⟨_, rfl⟩
          obtain ⟨x, hx⟩ : ∃ x : Int, (if (back Q).isSome then 0 else 2) = x := ⟨_, rfl⟩
          have hdl : D.length ≤ 1000000 := by have := backD_len Q; rw [hD] at this; omega
          have HD := Lib.hid hD
          have HX := Lib.hid hx
          clear hD hx
          go_wp2_with fail
          refine (back_any _ (i) _ Q _ hsp (by omega) (by omega) (by omega)).mono ?_
          rintro e w5 hP
          obtain ⟨r5, rfl, ho5, hb5⟩ := backP_of HD.out HX.out hP
          clear hP
          have hbw5 : Below w.heap.size w w5 := Below.next' hbp hb5 hbp.size
          replace hsp := hsp.below hb5
          obtain ⟨A5, c5, rfl, hs5, hlc5, hcm5⟩ := ho5.forms
          clear ho5 hb5
          go_wp2_with fail
          refine (rback_any _ (i) _ Q _ hsp (by omega) (by omega) (by omega)).mono ?_
          rintro e w6 hP
          obtain ⟨r6, rfl, ho6, hb6⟩ := backP_of HD.out HX.out hP
          clear hP
          have hbw6 : Below w.heap.size w w6 := Below.next' hbw5 hb6 hbw5.size
          replace hs5 := hs5.below hb6
          obtain ⟨A6, c6, rfl, hs6, hlc6, hcm6⟩ := ho6.forms
          clear ho6 hb6 hsp
          go_wp2_with fail
          refine (sameL_yes A5 A6 _ _ c5 c6 D _ hs5 hs6 (by omega)).mono ?_
          rintro e w7 ⟨rfl, hb7⟩
          go_wp2
          go_ret
          exact ⟨rfl, Below.next' hbw6 hb7 hbw6.size⟩
    · have hm' : (20 : Int) < (m : Int) := by omega
      go_enter Try.func12, Try.ntmps12
      go_wp2_with fail
      refine (nought_any _).mono ?_
      rintro e w1 ⟨rfl, hb1⟩
      go_wp2_with fail
      refine (small_any A n c _).mono ?_
      rintro e w' ⟨rfl, rfl⟩
      go_wp2_with fail
      refine (nought_any _).mono ?_
      rintro e w2 ⟨rfl, hb2⟩
      go_wp2
      go_ret
      exact ⟨rfl, Below.next' hb1 hb2 hb1.size⟩
  · have h1' : decide ((n : Int) ≤ 12) = false := decide_eq_false (by omega)
    go_enter Try.func12, Try.ntmps12
    go_wp2_with fail
    refine (nought_any _).mono ?_
    rintro e w1 ⟨rfl, hb1⟩
    go_wp2_with fail
    refine (small_any A n c _).mono ?_
    rintro e w' ⟨rfl, rfl⟩
    go_wp2_with fail
    refine (nought_any _).mono ?_
    rintro e w2 ⟨rfl, hb2⟩
    go_wp2
    go_ret
    exact ⟨rfl, Below.next' hb1 hb2 hb1.size⟩

end Go.Proofs.Ytkihpnfehjmpiaa
