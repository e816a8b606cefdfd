/-
  The walk of the law TablePacks.
-/
import Derived.Test.YtcmagjeplofagaaWT3
import Derived.Test.YtcmagjeplofagaaWS
import Derived.Test.YtcmagjeplofagaaOpenV
namespace Go.Proofs.Ytcmagjeplofagaa
open Go.RowKit

theorem ofW_allT {l : List V} (h : ∀ x ∈ l, x.Wide) : ∀ v ∈ l.map ofW, v.Ok := by
  intro v hv
  simp only [List.mem_map] at hv
  obtain ⟨x, hx, rfl⟩ := hv
  have := h x hx
  exact ofW_ok x this.2.2.1 this.2.2.2.1
theorem wideT {l : List V} (h : ∀ x ∈ l, x.Wide) : ∀ x ∈ l, 0 ≤ x.k ∧ x.k ≤ 255 ∧ x.s.size ≤ maxLen := fun x hx =>
  ⟨(h x hx).1, (h x hx).2.1, (h x hx).2.2.2.2⟩
theorem packL_len (l : List V) (h : ∀ v ∈ l, v.Ok) : (packL l).length ≤ 1000 * l.length + 1 := by
  unfold packL
  rw [List.length_cons]
  have := encL_len l h
  omega
theorem unpA_len : ∀ (k : Nat) (d : List V) (r : List UInt8), (unpA d k r).1.length ≤ d.length + k := by
  intro k
  induction k with
  | zero => intro d r; unfold unpA; split <;> simp
  | succ k ih =>
    intro d r
    unfold unpA
    split
    · have := ih (d ++ [(dec r).1]) (r.drop (dec r).2.1)
      rw [List.length_append, List.length_singleton] at this
      omega
    · simp
theorem unpackL_len (l : List UInt8) : (unpackL l).1.length ≤ 255 := by
  rcases l with _ | ⟨b, r⟩
  · simp [unpackL]
  · have := unpA_len b.toNat [] r
    have h2 := byte_lt b
    show (unpA [] b.toNat r).1.length ≤ 255
    simp at this
    omega

set_option maxHeartbeats 1000000 in
theorem tablePacks_walk (A : Option Addr) (n c : Nat) (l : List V) (B : Option Addr) (m d : Nat) (p : List UInt8) (w : World) (ha : SegV w A n l) (_ : n ≤ c) (_ : c ≤ maxLen) (hwl : ∀ x ∈ l, x.Wide)
    (hp : Seg w B m p) (hmd : m ≤ d) (hdm : d ≤ maxLen) :
    Calls Try.prog 6 #[.slice A n c, .slice B m d] w fun e w' => e = .returned (.bool true) ∧ Below w.heap.size w w' := by
  have hvl := ofW_allT hwl
  have hll : (l.map ofW).length = n := by rw [List.length_map, ha.1]
  by_cases h1 : n ≤ 20 ∧ m ≤ 100
  · obtain ⟨h1, h2⟩ := h1
    have h1' : decide ((20 : Int) < (n : Int)) = false := decide_eq_false (by omega)
    have h2' : decide ((100 : Int) < (m : Int)) = false := decide_eq_false (by omega)
    go_enter Try.func6, Try.ntmps6
    go_wp2_with fail
    refine (tnoughts_any _).mono ?_
    rintro e w1 ⟨rfl, hb1⟩
    replace ha := ha.below hb1
    replace hp := hp.below hb1
    go_wp2_with fail
    refine (values_any A n c l _ ha (by omega) (wideT hwl)).mono ?_
    rintro e w2 ⟨r2, rfl, ho2, hb2⟩
    have hbw2 : Below w.heap.size w w2 := Below.next' hb1 hb2 hb1.size
    replace hp := hp.below hb2
    generalize l.map ofW = L at *
    obtain ⟨A2, c2, rfl, hs2, hlc2, hcm2⟩ := ho2.forms
    rw [hll] at hs2 hlc2 ⊢
    have hup := unpack_pack L hvl (by omega)
    have hpl := packL_len L hvl
    have hll' : L.length ≤ 20 := by omega
    have HLL := Lib.hid hll
    clear ho2 hb2 hll
    go_wp2_with fail
    refine (pack_any A2 n c2 L _ hs2 (by omega) hvl).mono ?_
    rintro e w3 ⟨r3, rfl, ho3, hb3⟩
    have hbw3 : Below w.heap.size w w3 := Below.next' hbw2 hb3 hbw2.size
    replace hs2 := hs2.below hb3
    replace hp := hp.below hb3
    obtain ⟨K, hK⟩ : ∃ K, packL L = K := ⟨_, rfl⟩
    rw [hK] at ho3 hpl hup
    have HK := Lib.hid hK
    have HUP := Lib.hid hup
    clear hK hup hb3
    obtain ⟨A3, c3, rfl, hs3, hlc3, hcm3⟩ := ho3.forms
    clear ho3
    go_wp2_with fail
    refine (unpack_any A3 _ c3 K _ hs3 hlc3 hcm3 (by omega)).mono ?_
    rintro e w4 ⟨r4, rfl, ho4, hb4⟩
    rw [HUP.out] at ho4 ⊢
    simp only at ho4 ⊢
    have hbw4 : Below w.heap.size w w4 := Below.next' hbw3 hb4 hbw3.size
    replace hs2 := hs2.below hb4
    replace hs3 := hs3.below hb4
    replace hp := hp.below hb4
    obtain ⟨A4, c4, rfl, hs4, hlc4, hcm4⟩ := ho4.forms
    rw [HLL.out] at hs4 hlc4 ⊢
    clear ho4 hb4
    go_wp2_with fail
    refine (unpack_any B m d p _ hp hmd hdm (by omega)).mono ?_
    rintro e w5 ⟨r5, rfl, ho5, hb5⟩
    have hbw5 : Below w.heap.size w w5 := Below.next' hbw4 hb5 hbw4.size
    replace hs2 := hs2.below hb5
    replace hs3 := hs3.below hb5
    replace hs4 := hs4.below hb5
    replace hp := hp.below hb5
    have hyl := unpackL_len p
    obtain ⟨A5, c5, rfl, hs5, hlc5, hcm5⟩ := ho5.forms
    clear ho5 hb5
    go_wp2_with fail
    refine (runpack_any B m d p _ hp hmd hdm (by omega)).mono ?_
    rintro e w6 ⟨r6, rfl, ho6, hb6⟩
    have hbw6 : Below w.heap.size w w6 := Below.next' hbw5 hb6 hbw5.size
    replace hs2 := hs2.below hb6
    replace hs3 := hs3.below hb6
    replace hs4 := hs4.below hb6
    replace hs5 := hs5.below hb6
    obtain ⟨A6, c6, rfl, hs6, hlc6, hcm6⟩ := ho6.forms
    clear ho6 hb6 hp
    rcases hY : unpackL p with ⟨Y, y⟩
    rw [hY] at hs5 hs6 hlc5 hlc6 hyl
    simp only at hs5 hs6 hlc5 hlc6 hyl ⊢
    clear hY
    go_wp2_with fail
    refine (rpack_any A2 n c2 L _ hs2 (by omega) hvl).mono ?_
    rintro e w7 ⟨r7, rfl, ho7, hb7⟩
    rw [HK.out] at ho7
    have hbw7 : Below w.heap.size w w7 := Below.next' hbw6 hb7 hbw6.size
    replace hs2 := hs2.below hb7
    replace hs3 := hs3.below hb7
    replace hs4 := hs4.below hb7
    replace hs5 := hs5.below hb7
    replace hs6 := hs6.below hb7
    obtain ⟨A7, c7, rfl, hs7, hlc7, hcm7⟩ := ho7.forms
    clear ho7 hb7
    go_wp2_with fail
    refine (bytes_yes A3 A7 _ _ c3 c7 K _ hs3 hs7 (Nat.le_trans hlc3 hcm3)).mono ?_
    rintro e w8 ⟨rfl, hb8⟩
    have hbw8 : Below w.heap.size w w8 := Below.next' hbw7 hb8 hbw7.size
    replace hs2 := hs2.below hb8
    replace hs4 := hs4.below hb8
    replace hs5 := hs5.below hb8
    replace hs6 := hs6.below hb8
    clear hb8 hs3 hs7
    go_wp2_with fail
    refine (sameL_yes A4 A2 _ _ c4 c2 L _ hs4 hs2 (by omega)).mono ?_
    rintro e w9 ⟨rfl, hb9⟩
    have hbw9 : Below w.heap.size w w9 := Below.next' hbw8 hb9 hbw8.size
    replace hs5 := hs5.below hb9
    replace hs6 := hs6.below hb9
    clear hb9 hs4 hs2
    go_wp2_with fail
    refine (sameL_yes A5 A6 _ _ c5 c6 Y _ hs5 hs6 (by omega)).mono ?_
    rintro e w10 ⟨rfl, hb10⟩
    go_wp2
    go_ret
    exact ⟨rfl, Below.next' hbw9 hb10 hbw9.size⟩
  · have h1' : decide ((20 : Int) < (n : Int)) = true ∨ (decide ((20 : Int) < (n : Int)) = false ∧ decide ((100 : Int) < (m : Int)) = true) := by
      by_cases h : n ≤ 20
      · exact .inr ⟨decide_eq_false (by omega), decide_eq_true (by omega)⟩
      · exact .inl (decide_eq_true (by omega))
    rcases h1' with h1' | ⟨h1', h2'⟩
    all_goals
      go_enter Try.func6, Try.ntmps6
      go_wp2_with fail
      refine (tnoughts_any _).mono ?_
      rintro e w1 ⟨rfl, hb1⟩
      go_wp2_with fail
      refine (tnoughts_any _).mono ?_
      rintro e w2 ⟨rfl, hb2⟩
      go_wp2
      go_ret
      exact ⟨rfl, Below.next' hb1 hb2 hb1.size⟩

end Go.Proofs.Ytcmagjeplofagaa
