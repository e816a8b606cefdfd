/-
  The walk of the law OrderKeeps.
-/
import Derived.Test.YtiggnmefechbaaaWC
import Derived.Test.YtiggnmefechbaaaOpenV
namespace Go.Proofs.Ytiggnmefechbaaa
open Go.RowKit
open Go.Op (bytesLess)

theorem ofW_allK {l : List V} (h : ∀ x ∈ l, x.Wide) : ∀ v ∈ l.map ofW, v.Ok := by
  intro v hv
  simp only [List.mem_map] at hv
  obtain ⟨x, hx, rfl⟩ := hv
  have := h x hx
  exact ofW_ok x this.2.2.1 this.2.2.2.1
theorem wideK {l : List V} (h : ∀ x ∈ l, x.Wide) : ∀ x ∈ l, 0 ≤ x.k ∧ x.k ≤ 255 ∧ x.s.size ≤ maxLen := fun x hx =>
  ⟨(h x hx).1, (h x hx).2.1, (h x hx).2.2.2.2⟩

/-- How the keys of two lists stand, as texts. -/
theorem key_three (L R : List V) (hl : ∀ v ∈ L, v.Ok) (hr : ∀ v ∈ R, v.Ok) (t u : ByteArray) (ht : ⟨(keyOf L).toArray⟩ = t) (hu : ⟨(keyOf R).toArray⟩ = u) :
    (cmpL L R = -1 ∧ bytesLess t.toList u.toList = true ∧ (t.toList == u.toList) = false) ∨ (cmpL L R = 1 ∧ bytesLess t.toList u.toList = false ∧ (t.toList == u.toList) = false) ∨ (cmpL L R = 0 ∧ bytesLess t.toList u.toList = false ∧ (t.toList == u.toList) = true) := by
  have e1 : t.toList = keyOf L := by rw [← ht, ByteArray.toList_eq]
  have e2 : u.toList = keyOf R := by rw [← hu, ByteArray.toList_eq]
  rw [e1, e2]
  rcases cmpL_key L R hl hr with ⟨h1, h2, h3⟩ | ⟨h1, h2, h3⟩ | ⟨h1, rfl⟩
  · refine .inl ⟨h1, h2, ?_⟩
    rw [beq_eq_false_iff_ne]
    intro h
    rw [h, bl_irr] at h2
    cases h2
  · refine .inr (.inl ⟨h1, h2, ?_⟩)
    rw [beq_eq_false_iff_ne]
    intro h
    rw [h, bl_irr] at h3
    cases h3
  · exact .inr (.inr ⟨h1, bl_irr _, by simp⟩)

set_option maxHeartbeats 2000000 in
theorem orderKeeps_walk (A : Option Addr) (n c : Nat) (l : List V) (B : Option Addr) (m d : Nat) (r : List V) (w : World) (ha : SegV w A n l) (_ : n ≤ c) (_ : c ≤ maxLen) (hwl : ∀ x ∈ l, x.Wide) (hb : SegV w B m r) (_ : m ≤ d) (_ : d ≤ maxLen) (hwr : ∀ x ∈ r, x.Wide) :
    Calls Try.prog 10 #[.slice A n c, .slice B m d] w fun e w' => e = .returned (.bool true) ∧ Below w.heap.size w w' := by
  have hvl := ofW_allK hwl
  have hvr := ofW_allK hwr
  have hll : (l.map ofW).length = n := by rw [List.length_map, ha.1]
  have hlr : (r.map ofW).length = m := by rw [List.length_map, hb.1]
  by_cases h1 : n ≤ 12
  · have h1' : decide ((n : Int) ≤ 12) = true := decide_eq_true (by omega)
    by_cases h2 : m ≤ 12
    · have h2' : decide ((m : Int) ≤ 12) = true := decide_eq_true (by omega)
      go_enter Try.func10, Try.ntmps10
      go_wp2_with fail
      refine (nought_any _).mono ?_
      rintro e w1 ⟨rfl, hb1⟩
      go_wp2_with fail
      refine (small_any A n c _).mono ?_
      rintro e w' ⟨rfl, rfl⟩
      go_wp2_with fail
      refine (small_any B m d _).mono ?_
      rintro e w' ⟨rfl, rfl⟩
      go_wp2_with fail
      refine (values_any A n c l _ (ha.below hb1) (by omega) (wideK hwl)).mono ?_
      rintro e w2 ⟨r2, rfl, ho2, hb2⟩
      have hbw2 : Below w.heap.size w w2 := Below.next' hb1 hb2 hb1.size
      generalize l.map ofW = L at *
      obtain ⟨A2, c2, rfl, hs2, hlc2, hcm2⟩ := ho2.forms
      rw [hll] at hs2 hlc2 ⊢
      clear ho2
      go_wp2_with fail
      refine (values_any B m d r _ (hb.below hbw2) (by omega) (wideK hwr)).mono ?_
      rintro e w3 ⟨r3, rfl, ho3, hb3⟩
      have hbw3 : Below w.heap.size w w3 := Below.next' hbw2 hb3 hbw2.size
      generalize r.map ofW = R at *
      obtain ⟨A3, c3, rfl, hs3, hlc3, hcm3⟩ := ho3.forms
      rw [hlr] at hs3 hlc3 ⊢
      replace hs2 := hs2.below hb3
      clear ho3 hb3 hb2 hb1
      obtain ⟨t, ht⟩ : ∃ t : ByteArray, (⟨(keyOf L).toArray⟩ : ByteArray) = t := ⟨_, rfl⟩
      obtain ⟨u, hu⟩ : ∃ u : ByteArray, (⟨(keyOf R).toArray⟩ : ByteArray) = u := ⟨_, rfl⟩
      have h3 := key_three L R hvl hvr t u ht hu
      have HK3 := Lib.hid h3
      have HT := Lib.hid ht
      have HU := Lib.hid hu
      have HLL := Lib.hid hll
      have HLR := Lib.hid hlr
      clear hll hlr ht hu h3
      go_wp2
      go_cut [7, 8] (fun p q wc => p = .string t ∧ q = .string u ∧ Below w3.heap.size w3 wc)
      case first =>
        go_region_with (first
          | (go_at_call_of 31 A2
             refine (key_any A2 n c2 L _ ?_ (by omega) hvl).mono ?_
             · first | exact hs2 | exact hs2.below hBb
             rintro e wa ⟨ra, rfl, hoa, hba⟩
             have hBa : Below w3.heap.size w3 wa := by first | exact Below.next hBb hba | exact Below.undrew hba
             obtain ⟨Aa, ca, rfl, hsa, hlca, hcma⟩ := hoa.forms
             have kca := run_string_seg (P := Try.prog) wa 24 9 5 bt Try.underlying9 Aa _ ca _ hsa
             rw [HT.out] at kca
             (try have kcb2 := run_string_seg (P := Try.prog) wa 24 9 5 bt Try.underlying9 Ab _ cb _ (hsb.below hba))
             (try rw [HU.out] at kcb2)
             clear hoa)
          | (go_at_call_of 31 A3
             refine (key_any A3 m c3 R _ ?_ (by omega) hvr).mono ?_
             · first | exact hs3 | exact hs3.below hBa
             rintro e wb ⟨rb, rfl, hob, hbb⟩
             have hBb : Below w3.heap.size w3 wb := by first | exact Below.next hBa hbb | exact Below.undrew hbb
             obtain ⟨Ab, cb, rfl, hsb, hlcb, hcmb⟩ := hob.forms
             have kcb := run_string_seg (P := Try.prog) wb 24 9 5 bt Try.underlying9 Ab _ cb _ hsb
             rw [HU.out] at kcb
             (try have kca2 := run_string_seg (P := Try.prog) wb 24 9 5 bt Try.underlying9 Aa _ ca _ (hsa.below hbb))
             (try rw [HT.out] at kca2)
             clear hob))
        all_goals go_wp2_with fail
        all_goals go_meet
        all_goals first | exact ⟨rfl, rfl, hBb⟩ | exact ⟨rfl, rfl, hBa⟩
      case rest =>
        obtain ⟨rfl, rfl, hbc⟩ := hcut
        have hbwc : Below w.heap.size w wc := Below.next' hbw3 hbc hbw3.size
        have hsL := hs2.below hbc
        have hsR := hs3.below hbc
        clear hbc hs2 hs3
        rcases HK3.out with ⟨e1, e2, e3⟩ | ⟨e1, e2, e3⟩ | ⟨e1, e2, e3⟩
        all_goals
          have HE1 := Lib.hid e1
          clear e1
          go_wp2_with fail
          refine (rcompareL_any A2 A3 n m c2 c3 L R _ hsL hsR (by omega) (by omega)).mono ?_
          rintro e w5 ⟨rfl, hb5⟩
          have hbw5 : Below w.heap.size w w5 := Below.next' hbwc hb5 hbwc.size
          rw [HE1.out]
          go_wp2
          go_ret
          exact ⟨rfl, hbw5⟩
    · have h2' : decide ((m : Int) ≤ 12) = false := decide_eq_false (by omega)
      go_enter Try.func10, Try.ntmps10
      go_wp2_with fail
      refine (nought_any _).mono ?_
      rintro e w1 ⟨rfl, hb1⟩
      go_wp2_with fail
      refine (small_any A n c _).mono ?_
      rintro e w' ⟨rfl, rfl⟩
      go_wp2_with fail
      refine (small_any B m d _).mono ?_
      rintro e w' ⟨rfl, rfl⟩
      go_wp2_with fail
      refine (nought_any _).mono ?_
      rintro e w2 ⟨rfl, hb2⟩
      go_wp2
      go_ret
      exact ⟨rfl, Below.next' hb1 hb2 hb1.size⟩
  · have h1' : decide ((n : Int) ≤ 12) = false := decide_eq_false (by omega)
    go_enter Try.func10, Try.ntmps10
    go_wp2_with fail
    refine (nought_any _).mono ?_
    rintro e w1 ⟨rfl, hb1⟩
    go_wp2_with fail
    refine (small_any A n c _).mono ?_
    rintro e w' ⟨rfl, rfl⟩
    go_wp2_with fail
    refine (nought_any _).mono ?_
    rintro e w2 ⟨rfl, hb2⟩
    go_wp2
    go_ret
    exact ⟨rfl, Below.next' hb1 hb2 hb1.size⟩

end Go.Proofs.Ytiggnmefechbaaa
