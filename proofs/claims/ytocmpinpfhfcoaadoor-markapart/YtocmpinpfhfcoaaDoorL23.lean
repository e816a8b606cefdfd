/-
  The walk of the law MarkApart.
-/
import Derived.Test.YtocmpinpfhfcoaaDoorWM4
namespace Go.Proofs.YtocmpinpfhfcoaaDoor
open Go.RowKit

theorem data_beq (a b : ByteArray) : (a.data.toList == b.data.toList) = (a.toList == b.toList) := by
  rw [Bool.eq_iff_iff]
  simp only [beq_iff_eq]
  rw [toList_inj]
  exact ⟨fun h => Go.WideShapes.bytes_inj h, fun h => by rw [h]⟩

set_option maxRecDepth 8000 in
set_option maxHeartbeats 4000000 in
theorem markApart_walk (k l : ByteArray) (C : Option Addr) (np cp : Nat) (p : List UInt8) (D : Option Addr) (nq cq : Nat) (q : List UInt8) (A : Option Addr) (na ca : Nat) (a : List UInt8) (B : Option Addr) (nb cb : Nat) (b : List UInt8) (w : World)
    (_ : k.size ≤ maxLen) (_ : l.size ≤ maxLen) (hp : Seg w C np p) (_ : np ≤ cp) (_ : cp ≤ maxLen) (hq : Seg w D nq q) (_ : nq ≤ cq) (_ : cq ≤ maxLen) (ha : Seg w A na a) (_ : na ≤ ca) (_ : ca ≤ maxLen) (hb : Seg w B nb b) (_ : nb ≤ cb) (_ : cb ≤ maxLen) (ht : Tab w) :
    Calls Tryd.prog 5 #[.string k, .string l, .slice C np cp, .slice D nq cq, .slice A na ca, .slice B nb cb] w fun e w' => e = .returned (.bool true) ∧ Below w.heap.size w w' := by
  by_cases hall : k.size ≤ 60 ∧ l.size ≤ 60 ∧ np ≤ 60 ∧ nq ≤ 60 ∧ na ≤ 60 ∧ nb ≤ 60
  · obtain ⟨h1, h2, h3, h4, h5, h6⟩ := hall
    have hd0 : decide ((60 : Int) < (k.size : Int)) = false := decide_eq_false (by omega)
    have hd1 : decide ((60 : Int) < (l.size : Int)) = false := decide_eq_false (by omega)
    have hd2 : decide ((60 : Int) < (np : Int)) = false := decide_eq_false (by omega)
    have hd3 : decide ((60 : Int) < (nq : Int)) = false := decide_eq_false (by omega)
    have hd4 : decide ((60 : Int) < (na : Int)) = false := decide_eq_false (by omega)
    have hd5 : decide ((60 : Int) < (nb : Int)) = false := decide_eq_false (by omega)
    have hkl : k.data.toList.length = k.size := by simp
    have hll : l.data.toList.length = l.size := by simp
    obtain ⟨d, hd⟩ : ∃ d, leafL k.data.toList p = d := ⟨_, rfl⟩
    have DL := Lib.hid (show d.length ≤ 125 by rw [← hd, leafL_length, hkl, hp.1]; omega)
    have HD := Lib.hid hd
    obtain ⟨d', hd'⟩ : ∃ d', leafL l.data.toList q = d' := ⟨_, rfl⟩
    have HD' := Lib.hid hd'
    have HS : Hid ((d == d') = (k.data.toList == l.data.toList && p == q)) := Lib.hid (by rw [← hd, ← hd']; exact leafL_beq _ _ _ _ (by omega) (by omega))
    have HE : Hid ((d == [0]) = false) := Lib.hid (by rw [← hd]; exact leaf_empty _ _)
    have HN : Hid (∀ x y, (d == nodeL x y) = false) := Lib.hid (fun x y => by rw [← hd]; exact leaf_node _ _ x y)
    clear hkl hll hd hd'
    go_enter Tryd.func5, Tryd.ntmps5
    go_wp2_with fail
    refine (rsum_any A na ca a _ ha (by omega)).mono ?_
    rintro e w1 ⟨rfl, hb1⟩
    have hX := sha_size a
    generalize ByteArray.mk (sha a).toArray = X at *
    go_wp2_with fail
    refine (rsum_any B nb cb b _ (hb.below hb1) (by omega)).mono ?_
    rintro e w2 ⟨rfl, hb2⟩
    have hbw2 : Below w.heap.size w w2 := Below.next' hb1 hb2 hb1.size
    have hY := sha_size b
    generalize ByteArray.mk (sha b).toArray = Y at *
    clear hb1 hb2
    have hXl : X.data.toList.length = 32 := by rw [← hX]; simp
    have hYl : Y.data.toList.length = 32 := by rw [← hY]; simp
    obtain ⟨n, hn⟩ : ∃ n, nodeL X.data.toList Y.data.toList = n := ⟨_, rfl⟩
    have NL := Lib.hid (show n.length = 65 by rw [← hn, nodeL_length, hXl, hYl])
    have ND := Lib.hid hn
    obtain ⟨m, hm⟩ : ∃ m, nodeL Y.data.toList X.data.toList = m := ⟨_, rfl⟩
    have MD := Lib.hid hm
    have NS : Hid ((n == m) = (X.data.toList == Y.data.toList)) := Lib.hid (by rw [← hn, ← hm]; exact nodeL_beq _ _ (by rw [hXl, hYl]))
    have DN : Hid ((d == n) = false) := Lib.hid (by rw [← hn]; exact HN.out _ _)
    obtain ⟨r, hr⟩ : ∃ r, linkL X.data.toList Y.data.toList X.data.toList = r := ⟨_, rfl⟩
    have RL := Lib.hid (show r.length = 97 by rw [← hr, linkL_length, hXl, hYl])
    have RD := Lib.hid hr
    have RN : Hid ((r == n) = false) := Lib.hid (by rw [← hr, ← hn]; exact link_node _ _ _ _ _)
    clear hn hm hr hXl hYl HN
    go_wp2_with fail
    refine (leafB_any k C np cp p _ (hp.below hbw2) (by omega) (by omega)).mono ?_
    rw [HD.out]
    rintro e w3 ⟨v3, rfl, ho3, hb3⟩
    obtain ⟨A3, c3, rfl, hs3, _, _⟩ := ho3.forms
    have hbw3 : Below w.heap.size w w3 := Below.next' hbw2 hb3 hbw2.size
    clear ho3 hb3 hbw2
    go_wp2_with fail
    refine (leafB_any l D nq cq q _ (hq.below hbw3) (by omega) (by omega)).mono ?_
    rw [HD'.out]
    rintro e w4 ⟨v4, rfl, ho4, hb4⟩
    obtain ⟨A4, c4, rfl, hs4, _, _⟩ := ho4.forms
    have hbw4 : Below w.heap.size w w4 := Below.next' hbw3 hb4 hbw3.size
    have hs3' := hs3.below hb4
    clear ho4 hb4 hbw3 hs3
    go_wp2_with fail
    refine (bytes_any A3 A4 _ _ c3 c4 d d' _ hs3' hs4 (by have := DL.out; simp only [maxLen]; omega)).mono ?_
    rintro e w5 ⟨rfl, u, rfl⟩
    have hbw5 : Below w.heap.size w (w4.drewN u) := Below.drewN' hbw4 u
    clear hbw4 hs3' hs4
    generalize w4.drewN u = w5 at *
    obtain ⟨same, hsame⟩ : ∃ t, (d == d') = t := ⟨_, rfl⟩
    rw [hsame]
    have HS' := Lib.hid (hsame.symm.trans HS.out)
    clear hsame HS
    go_wp2_with fail
    refine (nodeB_any X Y _ (by omega) (by omega)).mono ?_
    rw [ND.out]
    rintro e w6 ⟨v6, rfl, ho6, hb6⟩
    obtain ⟨A6, c6, rfl, hs6, _, _⟩ := ho6.forms
    have hbw6 : Below w.heap.size w w6 := Below.next' hbw5 hb6 hbw5.size
    clear ho6 hb6 hbw5
    go_wp2_with fail
    refine (nodeB_any Y X _ (by omega) (by omega)).mono ?_
    rw [MD.out]
    rintro e w7 ⟨v7, rfl, ho7, hb7⟩
    obtain ⟨A7, c7, rfl, hs7, _, _⟩ := ho7.forms
    have hbw7 : Below w.heap.size w w7 := Below.next' hbw6 hb7 hbw6.size
    have hs6' := hs6.below hb7
    clear ho7 hb7 hbw6 hs6
    go_wp2_with fail
    refine (bytes_any A6 A7 _ _ c6 c7 n m _ hs6' hs7 (by rw [NL.out]; simp only [maxLen]; omega)).mono ?_
    rintro e w8 ⟨rfl, u, rfl⟩
    have hbw8 : Below w.heap.size w (w7.drewN u) := Below.drewN' hbw7 u
    clear hbw7 hs6' hs7
    generalize w7.drewN u = w8 at *
    rw [NS.out]
    obtain ⟨nodes, hnodes⟩ : ∃ t, (X.data.toList == Y.data.toList) = t := ⟨_, rfl⟩
    rw [hnodes]
    have hxy : (X.toList == Y.toList) = nodes := by rw [← hnodes]; exact (data_beq X Y).symm
    have hnn : (nodes == nodes) = true := by simp
    clear hnodes NS
    obtain ⟨kb, hkb⟩ : ∃ t, (k.toList == l.toList) = t := ⟨_, rfl⟩
    rw [data_beq, hkb] at HS'
    go_wp2_with fail
    refine (long_any _ (Tab.below ht hbw8)).mono ?_
    rintro e w9 ⟨rfl, hb9⟩
    have hbw9 : Below w.heap.size w w9 := Below.next' hbw8 hb9 hbw8.size
    clear hb9 hbw8
    cases kb with
    | false =>
      have hsame : same = false := by rw [HS'.out]; rfl
      subst hsame
      have hbw10 := hbw9
      clear hbw9 HS'
      go_wp2_with fail
      refine (leafB_any k C np cp p _ (hp.below hbw10) (by omega) (by omega)).mono ?_
      rw [HD.out]
      rintro e w11 ⟨v11, rfl, ho11, hb11⟩
      obtain ⟨A11, c11, rfl, hs11, _, _⟩ := ho11.forms
      have hbw11 : Below w.heap.size w w11 := Below.next' hbw10 hb11 hbw10.size
      clear ho11 hb11 hbw10
      go_wp2_with fail
      refine (nodeB_any X Y _ (by omega) (by omega)).mono ?_
      rw [ND.out]
      rintro e w12 ⟨v12, rfl, ho12, hb12⟩
      obtain ⟨A12, c12, rfl, hs12, _, _⟩ := ho12.forms
      have hbw12 : Below w.heap.size w w12 := Below.next' hbw11 hb12 hbw11.size
      have hs11' := hs11.below hb12
      clear ho12 hb12 hbw11 hs11
      go_wp2_with fail
      refine (bytes_any A11 A12 _ _ c11 c12 d n _ hs11' hs12 (by have := DL.out; simp only [maxLen]; omega)).mono ?_
      rintro e w13 ⟨rfl, u, rfl⟩
      have hbw13 : Below w.heap.size w (w12.drewN u) := Below.drewN' hbw12 u
      clear hbw12 hs11' hs12
      generalize w12.drewN u = w13 at *
      rw [DN.out]
      go_wp2_with fail
      refine (linkB_any X Y X _ (by omega) (by omega) (by omega)).mono ?_
      rw [RD.out]
      rintro e w14 ⟨v14, rfl, ho14, hb14⟩
      obtain ⟨A14, c14, rfl, hs14, _, _⟩ := ho14.forms
      have hbw14 : Below w.heap.size w w14 := Below.next' hbw13 hb14 hbw13.size
      clear ho14 hb14 hbw13
      go_wp2_with fail
      refine (nodeB_any X Y _ (by omega) (by omega)).mono ?_
      rw [ND.out]
      rintro e w15 ⟨v15, rfl, ho15, hb15⟩
      obtain ⟨A15, c15, rfl, hs15, _, _⟩ := ho15.forms
      have hbw15 : Below w.heap.size w w15 := Below.next' hbw14 hb15 hbw14.size
      have hs14' := hs14.below hb15
      clear ho15 hb15 hbw14 hs14
      go_wp2_with fail
      refine (bytes_any A14 A15 _ _ c14 c15 r n _ hs14' hs15 (by rw [RL.out]; simp only [maxLen]; omega)).mono ?_
      rintro e w16 ⟨rfl, u, rfl⟩
      have hbw16 : Below w.heap.size w (w15.drewN u) := Below.drewN' hbw15 u
      clear hbw15 hs14' hs15
      generalize w15.drewN u = w16 at *
      rw [RN.out]
      go_wp2_with fail
      refine (leafB_any k C np cp p _ (hp.below hbw16) (by omega) (by omega)).mono ?_
      rw [HD.out]
      rintro e w17 ⟨v17, rfl, ho17, hb17⟩
      obtain ⟨A17, c17, rfl, hs17, _, _⟩ := ho17.forms
      have hbw17 : Below w.heap.size w w17 := Below.next' hbw16 hb17 hbw16.size
      clear ho17 hb17 hbw16
      go_wp2_with fail
      have hbw18 : Below w.heap.size w (w17.alloc (.cells #[.int .u8 0] 5)) := hbw17.alloc hbw17.size _
      refine (bytes_any A17 _ _ 1 c17 1 d [0] _ (hs17.alloc _) (Seg.one _ _ _ 0 rfl) (by have := DL.out; simp only [maxLen]; omega)).mono ?_
      rintro e w19 ⟨rfl, u, rfl⟩
      rw [HE.out]
      have hbw19 := Below.drewN' hbw18 u
      go_wp2
      go_ret
      exact ⟨rfl, hbw19⟩
    | true =>
      go_wp2_with fail
      refine (bytes_any C D _ _ cp cq p q _ (hp.below hbw9) (hq.below hbw9) (by simp only [maxLen]; omega)).mono ?_
      rintro e w10 ⟨rfl, u, rfl⟩
      have hbw10 : Below w.heap.size w (w9.drewN u) := Below.drewN' hbw9 u
      clear hbw9
      generalize w9.drewN u = w10 at *
      have hsame : (p == q) = same := by rw [HS'.out]; rfl
      rw [hsame]
      have hss : (same == same) = true := by simp
      clear hsame HS'
      go_wp2_with fail
      refine (leafB_any k C np cp p _ (hp.below hbw10) (by omega) (by omega)).mono ?_
      rw [HD.out]
      rintro e w11 ⟨v11, rfl, ho11, hb11⟩
      obtain ⟨A11, c11, rfl, hs11, _, _⟩ := ho11.forms
      have hbw11 : Below w.heap.size w w11 := Below.next' hbw10 hb11 hbw10.size
      clear ho11 hb11 hbw10
      go_wp2_with fail
      refine (nodeB_any X Y _ (by omega) (by omega)).mono ?_
      rw [ND.out]
      rintro e w12 ⟨v12, rfl, ho12, hb12⟩
      obtain ⟨A12, c12, rfl, hs12, _, _⟩ := ho12.forms
      have hbw12 : Below w.heap.size w w12 := Below.next' hbw11 hb12 hbw11.size
      have hs11' := hs11.below hb12
      clear ho12 hb12 hbw11 hs11
      go_wp2_with fail
      refine (bytes_any A11 A12 _ _ c11 c12 d n _ hs11' hs12 (by have := DL.out; simp only [maxLen]; omega)).mono ?_
      rintro e w13 ⟨rfl, u, rfl⟩
      have hbw13 : Below w.heap.size w (w12.drewN u) := Below.drewN' hbw12 u
      clear hbw12 hs11' hs12
      generalize w12.drewN u = w13 at *
      rw [DN.out]
      go_wp2_with fail
      refine (linkB_any X Y X _ (by omega) (by omega) (by omega)).mono ?_
      rw [RD.out]
      rintro e w14 ⟨v14, rfl, ho14, hb14⟩
      obtain ⟨A14, c14, rfl, hs14, _, _⟩ := ho14.forms
      have hbw14 : Below w.heap.size w w14 := Below.next' hbw13 hb14 hbw13.size
      clear ho14 hb14 hbw13
      go_wp2_with fail
      refine (nodeB_any X Y _ (by omega) (by omega)).mono ?_
      rw [ND.out]
      rintro e w15 ⟨v15, rfl, ho15, hb15⟩
      obtain ⟨A15, c15, rfl, hs15, _, _⟩ := ho15.forms
      have hbw15 : Below w.heap.size w w15 := Below.next' hbw14 hb15 hbw14.size
      have hs14' := hs14.below hb15
      clear ho15 hb15 hbw14 hs14
      go_wp2_with fail
      refine (bytes_any A14 A15 _ _ c14 c15 r n _ hs14' hs15 (by rw [RL.out]; simp only [maxLen]; omega)).mono ?_
      rintro e w16 ⟨rfl, u, rfl⟩
      have hbw16 : Below w.heap.size w (w15.drewN u) := Below.drewN' hbw15 u
      clear hbw15 hs14' hs15
      generalize w15.drewN u = w16 at *
      rw [RN.out]
      go_wp2_with fail
      refine (leafB_any k C np cp p _ (hp.below hbw16) (by omega) (by omega)).mono ?_
      rw [HD.out]
      rintro e w17 ⟨v17, rfl, ho17, hb17⟩
      obtain ⟨A17, c17, rfl, hs17, _, _⟩ := ho17.forms
      have hbw17 : Below w.heap.size w w17 := Below.next' hbw16 hb17 hbw16.size
      clear ho17 hb17 hbw16
      go_wp2_with fail
      have hbw18 : Below w.heap.size w (w17.alloc (.cells #[.int .u8 0] 5)) := hbw17.alloc hbw17.size _
      refine (bytes_any A17 _ _ 1 c17 1 d [0] _ (hs17.alloc _) (Seg.one _ _ _ 0 rfl) (by have := DL.out; simp only [maxLen]; omega)).mono ?_
      rintro e w19 ⟨rfl, u, rfl⟩
      rw [HE.out]
      have hbw19 := Below.drewN' hbw18 u
      go_wp2
      go_ret
      exact ⟨rfl, hbw19⟩
  · have hc : 60 < k.size ∨ k.size ≤ 60 ∧ 60 < l.size ∨ k.size ≤ 60 ∧ l.size ≤ 60 ∧ 60 < np ∨ k.size ≤ 60 ∧ l.size ≤ 60 ∧ np ≤ 60 ∧ 60 < nq ∨ k.size ≤ 60 ∧ l.size ≤ 60 ∧ np ≤ 60 ∧ nq ≤ 60 ∧ 60 < na ∨ k.size ≤ 60 ∧ l.size ≤ 60 ∧ np ≤ 60 ∧ nq ≤ 60 ∧ na ≤ 60 ∧ 60 < nb := by omega
    rcases hc with g0 | ⟨g0, g1⟩ | ⟨g0, g1, g2⟩ | ⟨g0, g1, g2, g3⟩ | ⟨g0, g1, g2, g3, g4⟩ | ⟨g0, g1, g2, g3, g4, g5⟩
    · have hd0 : decide ((60 : Int) < (k.size : Int)) = true := decide_eq_true (by omega)
      go_enter Tryd.func5, Tryd.ntmps5
      go_wp2_with fail
      refine (long_any _ ht).mono ?_
      rintro e w1 ⟨rfl, hb1⟩
      go_wp2
      go_ret
      exact ⟨rfl, hb1⟩
    · have hd0 : decide ((60 : Int) < (k.size : Int)) = false := decide_eq_false (by omega)
      have hd1 : decide ((60 : Int) < (l.size : Int)) = true := decide_eq_true (by omega)
      go_enter Tryd.func5, Tryd.ntmps5
      go_wp2_with fail
      refine (long_any _ ht).mono ?_
      rintro e w1 ⟨rfl, hb1⟩
      go_wp2
      go_ret
      exact ⟨rfl, hb1⟩
    · have hd0 : decide ((60 : Int) < (k.size : Int)) = false := decide_eq_false (by omega)
      have hd1 : decide ((60 : Int) < (l.size : Int)) = false := decide_eq_false (by omega)
      have hd2 : decide ((60 : Int) < (np : Int)) = true := decide_eq_true (by omega)
      go_enter Tryd.func5, Tryd.ntmps5
      go_wp2_with fail
      refine (long_any _ ht).mono ?_
      rintro e w1 ⟨rfl, hb1⟩
      go_wp2
      go_ret
      exact ⟨rfl, hb1⟩
    · have hd0 : decide ((60 : Int) < (k.size : Int)) = false := decide_eq_false (by omega)
      have hd1 : decide ((60 : Int) < (l.size : Int)) = false := decide_eq_false (by omega)
      have hd2 : decide ((60 : Int) < (np : Int)) = false := decide_eq_false (by omega)
      have hd3 : decide ((60 : Int) < (nq : Int)) = true := decide_eq_true (by omega)
      go_enter Tryd.func5, Tryd.ntmps5
      go_wp2_with fail
      refine (long_any _ ht).mono ?_
      rintro e w1 ⟨rfl, hb1⟩
      go_wp2
      go_ret
      exact ⟨rfl, hb1⟩
    · have hd0 : decide ((60 : Int) < (k.size : Int)) = false := decide_eq_false (by omega)
      have hd1 : decide ((60 : Int) < (l.size : Int)) = false := decide_eq_false (by omega)
      have hd2 : decide ((60 : Int) < (np : Int)) = false := decide_eq_false (by omega)
      have hd3 : decide ((60 : Int) < (nq : Int)) = false := decide_eq_false (by omega)
      have hd4 : decide ((60 : Int) < (na : Int)) = true := decide_eq_true (by omega)
      go_enter Tryd.func5, Tryd.ntmps5
      go_wp2_with fail
      refine (long_any _ ht).mono ?_
      rintro e w1 ⟨rfl, hb1⟩
      go_wp2
      go_ret
      exact ⟨rfl, hb1⟩
    · have hd0 : decide ((60 : Int) < (k.size : Int)) = false := decide_eq_false (by omega)
      have hd1 : decide ((60 : Int) < (l.size : Int)) = false := decide_eq_false (by omega)
      have hd2 : decide ((60 : Int) < (np : Int)) = false := decide_eq_false (by omega)
      have hd3 : decide ((60 : Int) < (nq : Int)) = false := decide_eq_false (by omega)
      have hd4 : decide ((60 : Int) < (na : Int)) = false := decide_eq_false (by omega)
      have hd5 : decide ((60 : Int) < (nb : Int)) = true := decide_eq_true (by omega)
      go_enter Tryd.func5, Tryd.ntmps5
      go_wp2_with fail
      refine (long_any _ ht).mono ?_
      rintro e w1 ⟨rfl, hb1⟩
      go_wp2
      go_ret
      exact ⟨rfl, hb1⟩

end Go.Proofs.YtocmpinpfhfcoaaDoor
