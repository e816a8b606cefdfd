/-
  The walk of the law ProofTurned.
-/
import Derived.Test.YtaanaoimnecenaaDoorPL6
import Derived.Test.YtaanaoimnecenaaDoorMemS
import Derived.Test.YtaanaoimnecenaaDoorOpen
namespace Go.Proofs.YtaanaoimnecenaaDoor
open Go.RowKit Go.ChangeShapes Go.WideShapes

set_option maxRecDepth 4000 in
set_option maxHeartbeats 16000000 in
theorem turned_set (A : Option Addr) (n c : Nat) (B : Option Addr) (m d : Nat) (x : Raw) (at_ : Int) (bb : UInt8) (B2 : Option Addr) (m2 d2 : Nat) (r2 : List UInt8) (w : World) (hv : RawAt w (.agg #[.slice A n c, .int .u8 (x.k : Int), .string x.key, .slice B m d]) x) (hf : x.Few) (hat0 : 0 ≤ at_) (hat1 : at_ ≤ 65535) (hB : Seg w B2 m2 r2) (hm2 : m2 ≤ 10) (ht : Tab w) :
    Calls Tryd.prog 11 #[.agg #[.slice A n c, .int .u8 (x.k : Int), .string x.key, .slice B m d], .int .u16 at_, .int .u8 (bb.toNat : Int), .bool false, .slice B2 m2 d2] w fun e w' => e = .returned (.bool true) ∧ Below w.heap.size w w' := by
  have d10 : decide ((10 : Int) < (m2 : Int)) = false := decide_eq_false (by omega)
  have hok := few_ok hf
  obtain ⟨p, hp⟩ : ∃ p, x.pf = p := ⟨_, rfl⟩
  rw [hp] at hok
  have HP := Lib.hid hp
  have HO := Lib.hid hok
  have hel := penc_len p (by omega) (fun s hs => by rw [hok.2.1 s hs]; omega) (by omega) (by omega)
  have hel0 : 0 < (penc p).length := by
    unfold penc
    simp only [List.length_append, high_length]
    omega
  obtain ⟨E, hE⟩ : ∃ E, penc p = E := ⟨_, rfl⟩
  rw [hE] at hel hel0
  obtain ⟨N, hN⟩ : ∃ N, E.length = N := ⟨_, rfl⟩
  rw [hN] at hel hel0
  obtain ⟨P, hP⟩ : ∃ P, E ++ r2 = P := ⟨_, rfl⟩
  obtain ⟨N2, hN2⟩ : ∃ N2, N + m2 = N2 := ⟨_, rfl⟩
  have HQQ := Lib.hid hP
  have HQL := Lib.hid (show P.length = N2 by rw [← hP, List.length_append, hN, hB.1]; exact hN2)
  have HE := Lib.hid hE
  have HEL := Lib.hid (And.intro hN (And.intro hel0 hel))
  obtain ⟨i, hi⟩ : ∃ i : Nat, at_ % (N2 : Int) = (i : Int) := ⟨(at_ % (N2 : Int)).toNat, by have := Int.emod_nonneg at_ (show (N2 : Int) ≠ 0 by omega); omega⟩
  have hiN : i < N2 := by have := Int.emod_lt_of_pos at_ (show (0 : Int) < (N2 : Int) by omega); omega
  have hit : at_.tmod (N2 : Int) = (i : Int) := by rw [Int.tmod_eq_emod_of_nonneg hat0]; exact hi
  have hne0 : ((N2 : Int) == 0) = false := by rw [beq_eq_false_iff_ne]; omega
  have hN2b : N2 ≤ 100010 := by omega
  have hip : (i : Int) < (N2 : Int) := by omega
  have wat : IntKind.i64.wrap at_ = at_ := IntWalk.i64_in _ (by omega)
  clear hp hok hel hE hN hP hN2 hel0
  go_enter Tryd.func11, Tryd.ntmps11
  have hbw := Below.refl w.heap.size w
  have hal := (Below.refl w.heap.size w).alloc (Nat.le_refl _) (.cells #[.slice A n c, .int .u8 (x.k : Int), .string x.key, .slice B m d] 72)
  have hv := hv.below hal
  have hbw := Below.next' hbw hal hbw.size
  have hB := hB.below hal
  have hq0 := Bx.new w (.slice A n c) (.int .u8 (x.k : Int)) (.string x.key) (.slice B m d) 72
  clear hal
  have HS := Lib.hid (And.intro hv (And.intro hbw (And.intro hB hq0)))
  clear hv hbw hB hq0
  go_wp2_with fail
  obtain ⟨hv, hbw, hB, hq0⟩ := HS.out
  clear HS
  generalize w.alloc (.cells #[.slice A n c, .int .u8 (x.k : Int), .string x.key, .slice B m d] 72) = w0 at *
  obtain ⟨b0, hb0⟩ : ∃ b0, w.heap.size = b0 := ⟨_, rfl⟩
  rw [hb0] at hq0 ⊢
  have HB0 := Lib.hid hb0
  clear hb0
  refine (bare_any _ (Tab.below ht hbw)).mono ?_
  rintro e w1 ⟨rfl, hb⟩
  have hv := hv.below hb
  have hbw := Below.next' hbw hb hbw.size
  have hB := hB.below hb
  have hq0 := hq0.below hb
  clear hb
  have r0 := hq0
  have HS := Lib.hid (And.intro hv (And.intro hbw (And.intro hB hq0)))
  clear hv hbw hB hq0
  obtain ⟨q0, q1, q2, q3, qf⟩ := r0
  clear qf
  go_wp2_with fail
  obtain ⟨hv, hbw, hB, hq0⟩ := HS.out
  clear HS
  clear q0 q1 q2 q3
  refine (few_any _ x true _ hv (by simp [hf])).mono ?_
  rintro e w2 ⟨rfl, hb⟩
  have hv := hv.below hb
  have hbw := Below.next' hbw hb hbw.size
  have hB := hB.below hb
  have hq0 := hq0.below hb
  clear hb
  have r0 := hq0
  have HS := Lib.hid (And.intro hv (And.intro hbw (And.intro hB hq0)))
  clear hv hbw hB hq0
  obtain ⟨q0, q1, q2, q3, qf⟩ := r0
  clear qf
  go_wp2_with fail
  obtain ⟨hv, hbw, hB, hq0⟩ := HS.out
  clear HS
  clear q0 q1 q2 q3
  refine (of_any' _ x _ hv hf).mono ?_
  rintro e w3 ⟨u, rfl, hu, hb⟩
  have hv := hv.below hb
  have hbw := Below.next' hbw hb hbw.size
  have hB := hB.below hb
  have hq0 := hq0.below hb
  clear hb hv hq0
  rw [HP.out] at hu
  obtain ⟨A1, c1, B1, d1, rfl, f1, f2, f3, f4, f5, f6⟩ := hu
  have hu : PfAt w3 (.agg #[.slice A1 p.side.length c1, .int .u8 (p.k : Int), .string p.key, .slice B1 p.row.length d1]) p := ⟨A1, c1, B1, d1, rfl, f1, f2, f3, f4, f5, f6⟩
  clear f1 f2 f3 f4 f5 f6
  have HS := Lib.hid (And.intro hbw (And.intro hB hu))
  clear hbw hB hu
  go_wp2_with fail
  obtain ⟨hbw, hB, hu⟩ := HS.out
  clear HS
  refine (pencode_any _ p _ hu (by have := HO.out.1; omega) (fun s hs => by rw [HO.out.2.1 s hs]; omega) (by have := HO.out.2.2.2.1; omega) (by have := HO.out.2.2.2.2.1; omega) (by have := HO.out.2.2.1; omega)).mono ?_
  rintro e w5 ⟨v5, rfl, ho5, hb⟩
  have hbw := Below.next' hbw hb hbw.size
  have hB := hB.below hb
  have hu := hu.below hb
  clear hb hu
  rw [HE.out] at ho5
  obtain ⟨A5, c5, rfl, hs5, hc5, hm5⟩ := ho5.forms
  clear ho5
  rw [HEL.out.1] at hs5 ⊢
  have HS := Lib.hid (And.intro hbw (And.intro hB hs5))
  clear hbw hB hs5
  go_wp2_with fail
  obtain ⟨hbw, hB, hs5⟩ := HS.out
  clear HS
  have hz5 := hbw.size
  refine (join_any A5 B2 N m2 c5 d2 E r2 _ hs5 hB (by have := HEL.out.2.2; omega)).mono ?_
  rintro e w6 ⟨v6, rfl, ho6, hb⟩
  have hbw := Below.next' hbw hb hbw.size
  have hB := hB.below hb
  have hs5 := hs5.below hb
  clear hb hs5 hB
  rw [HQQ.out] at ho6
  have hz6 := hbw.size
  have hlt6 := ho6.lt
  obtain ⟨gq, cap, rfl, hgq, hgl, hcl, hfr, hcap1, hcap2, hset⟩ := own_set ho6 i (by rw [HQL.out]; omega)
  rw [HQL.out] at hset hcap1 ⊢
  have hsp := hset bb
  clear hset ho6 hlt6
  have hbp : Below w.heap.size w (w6.setCell ⟨gq, i, none⟩ (.int .u8 (bb.toNat : Int))) := hbw.setCell (show w.heap.size ≤ gq by omega) _
  generalize P.set i bb = Q at *
  go_wp2_with fail
  refine (reads_any _ N2 _ Q _ hsp hcap1 hcap2 (by omega)).mono ?_
  rintro e w7 ⟨rfl, hb⟩
  go_wp2
  go_ret
  refine ⟨rfl, ?_⟩
  rw [HB0.out] at hbp ⊢
  exact Below.next' hbp hb (by have := hbp.size; have e := HB0.out; omega)

set_option maxRecDepth 4000 in
set_option maxHeartbeats 16000000 in
theorem turned_cut (A : Option Addr) (n c : Nat) (B : Option Addr) (m d : Nat) (x : Raw) (at_ : Int) (bb : UInt8) (B2 : Option Addr) (m2 d2 : Nat) (r2 : List UInt8) (w : World) (hv : RawAt w (.agg #[.slice A n c, .int .u8 (x.k : Int), .string x.key, .slice B m d]) x) (hf : x.Few) (hat0 : 0 ≤ at_) (hat1 : at_ ≤ 65535) (hB : Seg w B2 m2 r2) (hm2 : m2 ≤ 10) (ht : Tab w) :
    Calls Tryd.prog 11 #[.agg #[.slice A n c, .int .u8 (x.k : Int), .string x.key, .slice B m d], .int .u16 at_, .int .u8 (bb.toNat : Int), .bool true, .slice B2 m2 d2] w fun e w' => e = .returned (.bool true) ∧ Below w.heap.size w w' := by
  have d10 : decide ((10 : Int) < (m2 : Int)) = false := decide_eq_false (by omega)
  have hok := few_ok hf
  obtain ⟨p, hp⟩ : ∃ p, x.pf = p := ⟨_, rfl⟩
  rw [hp] at hok
  have HP := Lib.hid hp
  have HO := Lib.hid hok
  have hel := penc_len p (by omega) (fun s hs => by rw [hok.2.1 s hs]; omega) (by omega) (by omega)
  have hel0 : 0 < (penc p).length := by
    unfold penc
    simp only [List.length_append, high_length]
    omega
  obtain ⟨E, hE⟩ : ∃ E, penc p = E := ⟨_, rfl⟩
  rw [hE] at hel hel0
  obtain ⟨N, hN⟩ : ∃ N, E.length = N := ⟨_, rfl⟩
  rw [hN] at hel hel0
  obtain ⟨P, hP⟩ : ∃ P, E ++ r2 = P := ⟨_, rfl⟩
  obtain ⟨N2, hN2⟩ : ∃ N2, N + m2 = N2 := ⟨_, rfl⟩
  have HQQ := Lib.hid hP
  have HQL := Lib.hid (show P.length = N2 by rw [← hP, List.length_append, hN, hB.1]; exact hN2)
  have HE := Lib.hid hE
  have HEL := Lib.hid (And.intro hN (And.intro hel0 hel))
  obtain ⟨i, hi⟩ : ∃ i : Nat, at_ % (N2 : Int) = (i : Int) := ⟨(at_ % (N2 : Int)).toNat, by have := Int.emod_nonneg at_ (show (N2 : Int) ≠ 0 by omega); omega⟩
  have hiN : i < N2 := by have := Int.emod_lt_of_pos at_ (show (0 : Int) < (N2 : Int) by omega); omega
  have hit : at_.tmod (N2 : Int) = (i : Int) := by rw [Int.tmod_eq_emod_of_nonneg hat0]; exact hi
  have hne0 : ((N2 : Int) == 0) = false := by rw [beq_eq_false_iff_ne]; omega
  have hN2b : N2 ≤ 100010 := by omega
  have hip : (i : Int) < (N2 : Int) := by omega
  have wat : IntKind.i64.wrap at_ = at_ := IntWalk.i64_in _ (by omega)
  clear hp hok hel hE hN hP hN2 hel0
  go_enter Tryd.func11, Tryd.ntmps11
  have hbw := Below.refl w.heap.size w
  have hal := (Below.refl w.heap.size w).alloc (Nat.le_refl _) (.cells #[.slice A n c, .int .u8 (x.k : Int), .string x.key, .slice B m d] 72)
  have hv := hv.below hal
  have hbw := Below.next' hbw hal hbw.size
  have hB := hB.below hal
  have hq0 := Bx.new w (.slice A n c) (.int .u8 (x.k : Int)) (.string x.key) (.slice B m d) 72
  clear hal
  have HS := Lib.hid (And.intro hv (And.intro hbw (And.intro hB hq0)))
  clear hv hbw hB hq0
  go_wp2_with fail
  obtain ⟨hv, hbw, hB, hq0⟩ := HS.out
  clear HS
  generalize w.alloc (.cells #[.slice A n c, .int .u8 (x.k : Int), .string x.key, .slice B m d] 72) = w0 at *
  obtain ⟨b0, hb0⟩ : ∃ b0, w.heap.size = b0 := ⟨_, rfl⟩
  rw [hb0] at hq0 ⊢
  have HB0 := Lib.hid hb0
  clear hb0
  refine (bare_any _ (Tab.below ht hbw)).mono ?_
  rintro e w1 ⟨rfl, hb⟩
  have hv := hv.below hb
  have hbw := Below.next' hbw hb hbw.size
  have hB := hB.below hb
  have hq0 := hq0.below hb
  clear hb
  have r0 := hq0
  have HS := Lib.hid (And.intro hv (And.intro hbw (And.intro hB hq0)))
  clear hv hbw hB hq0
  obtain ⟨q0, q1, q2, q3, qf⟩ := r0
  clear qf
  go_wp2_with fail
  obtain ⟨hv, hbw, hB, hq0⟩ := HS.out
  clear HS
  clear q0 q1 q2 q3
  refine (few_any _ x true _ hv (by simp [hf])).mono ?_
  rintro e w2 ⟨rfl, hb⟩
  have hv := hv.below hb
  have hbw := Below.next' hbw hb hbw.size
  have hB := hB.below hb
  have hq0 := hq0.below hb
  clear hb
  have r0 := hq0
  have HS := Lib.hid (And.intro hv (And.intro hbw (And.intro hB hq0)))
  clear hv hbw hB hq0
  obtain ⟨q0, q1, q2, q3, qf⟩ := r0
  clear qf
  go_wp2_with fail
  obtain ⟨hv, hbw, hB, hq0⟩ := HS.out
  clear HS
  clear q0 q1 q2 q3
  refine (of_any' _ x _ hv hf).mono ?_
  rintro e w3 ⟨u, rfl, hu, hb⟩
  have hv := hv.below hb
  have hbw := Below.next' hbw hb hbw.size
  have hB := hB.below hb
  have hq0 := hq0.below hb
  clear hb hv hq0
  rw [HP.out] at hu
  obtain ⟨A1, c1, B1, d1, rfl, f1, f2, f3, f4, f5, f6⟩ := hu
  have hu : PfAt w3 (.agg #[.slice A1 p.side.length c1, .int .u8 (p.k : Int), .string p.key, .slice B1 p.row.length d1]) p := ⟨A1, c1, B1, d1, rfl, f1, f2, f3, f4, f5, f6⟩
  clear f1 f2 f3 f4 f5 f6
  have HS := Lib.hid (And.intro hbw (And.intro hB hu))
  clear hbw hB hu
  go_wp2_with fail
  obtain ⟨hbw, hB, hu⟩ := HS.out
  clear HS
  refine (pencode_any _ p _ hu (by have := HO.out.1; omega) (fun s hs => by rw [HO.out.2.1 s hs]; omega) (by have := HO.out.2.2.2.1; omega) (by have := HO.out.2.2.2.2.1; omega) (by have := HO.out.2.2.1; omega)).mono ?_
  rintro e w5 ⟨v5, rfl, ho5, hb⟩
  have hbw := Below.next' hbw hb hbw.size
  have hB := hB.below hb
  have hu := hu.below hb
  clear hb hu
  rw [HE.out] at ho5
  obtain ⟨A5, c5, rfl, hs5, hc5, hm5⟩ := ho5.forms
  clear ho5
  rw [HEL.out.1] at hs5 ⊢
  have HS := Lib.hid (And.intro hbw (And.intro hB hs5))
  clear hbw hB hs5
  go_wp2_with fail
  obtain ⟨hbw, hB, hs5⟩ := HS.out
  clear HS
  have hz5 := hbw.size
  refine (join_any A5 B2 N m2 c5 d2 E r2 _ hs5 hB (by have := HEL.out.2.2; omega)).mono ?_
  rintro e w6 ⟨v6, rfl, ho6, hb⟩
  have hbw := Below.next' hbw hb hbw.size
  have hB := hB.below hb
  have hs5 := hs5.below hb
  clear hb hs5 hB
  rw [HQQ.out] at ho6
  have hz6 := hbw.size
  have hlt6 := ho6.lt
  obtain ⟨A6, c6, rfl, hs6, hc6, hm6⟩ := ho6.forms
  clear ho6
  rw [HQL.out] at hs6 hc6 ⊢
  have hsp := hs6.upto i (by omega)
  have hlP : (P.take i).length ≤ 1000000 := by rw [List.length_take]; omega
  generalize P.take i = Q at *
  clear hs6 hlt6
  go_wp2_with fail
  refine (reads_any A6 i c6 Q _ hsp (by omega) hm6 (by omega)).mono ?_
  rintro e w7 ⟨rfl, hb⟩
  go_wp2
  go_ret
  refine ⟨rfl, ?_⟩
  rw [HB0.out] at hbw ⊢
  exact Below.next' hbw hb (by rw [← HB0.out] at *; omega)

theorem turned_out (v : Value) (x : Raw) (at_ : Int) (bb : UInt8) (cut : Bool) (B2 : Option Addr) (m2 d2 : Nat) (w : World) (hv : RawAt w v x) (hf : ¬ (x.Few ∧ m2 ≤ 10)) (ht : Tab w) :
    Calls Tryd.prog 11 #[v, .int .u16 at_, .int .u8 (bb.toNat : Int), .bool cut, .slice B2 m2 d2] w fun e w' => e = .returned (.bool true) ∧ Below w.heap.size w w' := by
  obtain ⟨A, n, c, B, m, d, rfl, h1, h2, h3, h4, h5, h6, h7, h8⟩ := hv
  have hv : RawAt w (.agg #[.slice A n c, .int .u8 (x.k : Int), .string x.key, .slice B m d]) x := ⟨A, n, c, B, m, d, rfl, h1, h2, h3, h4, h5, h6, h7, h8⟩
  clear h1 h2 h3 h4 h5 h6 h7 h8
  obtain ⟨f, hfe⟩ : ∃ f : Bool, f = true ↔ x.Few := by
    classical
    exact ⟨decide x.Few, by simp⟩
  have hor : f = false ∨ (f = true ∧ decide ((10 : Int) < (m2 : Int)) = true) := by
    rcases f with _ | _
    · exact .inl rfl
    · exact .inr ⟨rfl, decide_eq_true (by
        have := hfe.1 rfl
        have : ¬ m2 ≤ 10 := fun h => hf ⟨this, h⟩
        omega)⟩
  rcases hor with rfl | ⟨rfl, d10⟩
  · have hbw := (Below.refl w.heap.size w).alloc (Nat.le_refl _) (.cells #[.slice A n c, .int .u8 (x.k : Int), .string x.key, .slice B m d] 72)
    have hq := Bx.new w (.slice A n c) (.int .u8 (x.k : Int)) (.string x.key) (.slice B m d) 72
    have hv1 := hv.below hbw
    have HS := Lib.hid (And.intro hv1 (And.intro hbw hq))
    have HFE := Lib.hid hfe
    clear hbw hq hv1 hfe
    go_enter Tryd.func11, Tryd.ntmps11
    go_wp2_with fail
    obtain ⟨hv1, hbw, hq⟩ := HS.out
    clear HS
    generalize w.alloc (.cells #[.slice A n c, .int .u8 (x.k : Int), .string x.key, .slice B m d] 72) = w0 at *
    obtain ⟨b0, hb0⟩ : ∃ b0, w.heap.size = b0 := ⟨_, rfl⟩
    rw [hb0] at hq ⊢
    have HB0 := Lib.hid hb0
    clear hb0
    refine (bare_any _ (Tab.below ht hbw)).mono ?_
    rintro e w1 ⟨rfl, hb⟩
    have hv1 := hv1.below hb
    have hq := hq.below hb
    have hbw := Below.next' hbw hb hbw.size
    obtain ⟨q0, q1, q2, q3, qf⟩ := hq
    clear qf hb
    have HS := Lib.hid (And.intro hv1 hbw)
    clear hv1 hbw
    go_wp2_with fail
    obtain ⟨hv1, hbw⟩ := HS.out
    refine (few_any _ x false _ hv1 (by have := HFE.out; simpa using this)).mono ?_
    rintro e w2 ⟨rfl, hb⟩
    have hbw := Below.next' hbw hb hbw.size
    clear hb q0 q1 q2 q3 hv1 HS
    go_wp2_with fail
    refine (bare_any _ (Tab.below ht hbw)).mono ?_
    rintro e w3 ⟨rfl, hb⟩
    have hbw := Below.next' hbw hb hbw.size
    go_wp2
    go_ret
    refine ⟨rfl, ?_⟩
    rw [HB0.out] at hbw ⊢
    exact hbw
  · have hbw := (Below.refl w.heap.size w).alloc (Nat.le_refl _) (.cells #[.slice A n c, .int .u8 (x.k : Int), .string x.key, .slice B m d] 72)
    have hq := Bx.new w (.slice A n c) (.int .u8 (x.k : Int)) (.string x.key) (.slice B m d) 72
    have hv1 := hv.below hbw
    have HS := Lib.hid (And.intro hv1 (And.intro hbw hq))
    have HFE := Lib.hid hfe
    clear hbw hq hv1 hfe
    go_enter Tryd.func11, Tryd.ntmps11
    go_wp2_with fail
    obtain ⟨hv1, hbw, hq⟩ := HS.out
    clear HS
    generalize w.alloc (.cells #[.slice A n c, .int .u8 (x.k : Int), .string x.key, .slice B m d] 72) = w0 at *
    obtain ⟨b0, hb0⟩ : ∃ b0, w.heap.size = b0 := ⟨_, rfl⟩
    rw [hb0] at hq ⊢
    have HB0 := Lib.hid hb0
    clear hb0
    refine (bare_any _ (Tab.below ht hbw)).mono ?_
    rintro e w1 ⟨rfl, hb⟩
    have hv1 := hv1.below hb
    have hq := hq.below hb
    have hbw := Below.next' hbw hb hbw.size
    obtain ⟨q0, q1, q2, q3, qf⟩ := hq
    clear qf hb
    have HS := Lib.hid (And.intro hv1 hbw)
    clear hv1 hbw
    go_wp2_with fail
    obtain ⟨hv1, hbw⟩ := HS.out
    refine (few_any _ x true _ hv1 (by have := HFE.out; simpa using this)).mono ?_
    rintro e w2 ⟨rfl, hb⟩
    have hbw := Below.next' hbw hb hbw.size
    clear hb q0 q1 q2 q3 hv1 HS
    go_wp2_with fail
    refine (bare_any _ (Tab.below ht hbw)).mono ?_
    rintro e w3 ⟨rfl, hb⟩
    have hbw := Below.next' hbw hb hbw.size
    go_wp2
    go_ret
    refine ⟨rfl, ?_⟩
    rw [HB0.out] at hbw ⊢
    exact hbw

theorem proofTurned_walk (v : Value) (x : Raw) (k b : Int) (cut : Bool) (B2 : Option Addr) (m2 d2 : Nat) (r2 : List UInt8) (w : World) (hv : RawAt w v x) (hk : (Lit.int .u16 k).wf = true) (hb : (Lit.int .u8 b).wf = true) (hB : Seg w B2 m2 r2) (_ : m2 ≤ d2) (_ : d2 ≤ maxLen) (ht : Tab w) :
    Calls Tryd.prog 11 #[v, .int .u16 k, .int .u8 b, .bool cut, .slice B2 m2 d2] w fun e w' => e = .returned (.bool true) ∧ Below w.heap.size w w' := by
  have hk0 := (bounds_u16 hk).1
  have hk1 := (bounds_u16 hk).2
  have hb0 := (bounds_u8 hb).1
  have hb1 := (bounds_u8 hb).2
  obtain ⟨b, rfl⟩ : ∃ x : UInt8, b = (x.toNat : Int) := ⟨UInt8.ofNat b.toNat, by rw [UInt8.toNat_ofNat']; omega⟩
  by_cases hf : x.Few ∧ m2 ≤ 10
  · obtain ⟨A, n, c, B, m, d, rfl, h1, h2, h3, h4, h5, h6, h7, h8⟩ := hv
    have hv : RawAt w (.agg #[.slice A n c, .int .u8 (x.k : Int), .string x.key, .slice B m d]) x := ⟨A, n, c, B, m, d, rfl, h1, h2, h3, h4, h5, h6, h7, h8⟩
    rcases cut with _ | _
    · exact turned_set A n c B m d x k b B2 m2 d2 r2 w hv hf.1 hk0 hk1 hB hf.2 ht
    · exact turned_cut A n c B m d x k b B2 m2 d2 r2 w hv hf.1 hk0 hk1 hB hf.2 ht
  · exact turned_out v x k b cut B2 m2 d2 w hv hf ht

end Go.Proofs.YtaanaoimnecenaaDoor
