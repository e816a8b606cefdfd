/-
  The walk of the law TableSame.
-/
import Derived.Test.YtcmagjeplofagaaWT3
import Derived.Test.YtcmagjeplofagaaWT4
import Derived.Test.YtcmagjeplofagaaMemS2
import Derived.Test.YtcmagjeplofagaaOpenV
namespace Go.Proofs.Ytcmagjeplofagaa
open Go.RowKit

theorem ofW_allS {l : List V} (h : ∀ x ∈ l, x.Wide) : ∀ v ∈ l.map ofW, v.Ok := by
  intro v hv
  simp only [List.mem_map] at hv
  obtain ⟨x, hx, rfl⟩ := hv
  have := h x hx
  exact ofW_ok x this.2.2.1 this.2.2.2.1
theorem wideS {l : List V} (h : ∀ x ∈ l, x.Wide) : ∀ x ∈ l, 0 ≤ x.k ∧ x.k ≤ 255 ∧ x.s.size ≤ maxLen := fun x hx =>
  ⟨(h x hx).1, (h x hx).2.1, (h x hx).2.2.2.2⟩
theorem sameL_is (A B : Option Addr) (n m c d : Nat) (l r : List V) (b : Bool) (w : World) (ha : SegV w A n l) (hb : SegV w B m r) (hn : n ≤ 1000000) (hlr : b = true ↔ l = r) :
    Calls Try.prog 25 #[.slice A n c, .slice B m d] w fun e w' => e = .returned (.bool b) ∧ Below w.heap.size w w' :=
  (sameL_any A B n m c d l r w ha hb hn).mono fun e w' h => by
    obtain ⟨⟨b', h1, h2⟩, k, rfl⟩ := h
    have h3 : b' = b := by
      rw [Bool.eq_iff_iff, h2, hlr]
    subst h3
    exact ⟨h1, below_drewN (Below.refl _ _) k⟩
theorem drop_ne (l : List V) (h : 0 < l.length) : l ≠ l.drop 1 := by
  intro e
  have := congrArg List.length e
  rw [List.length_drop] at this
  omega
theorem wrap_ne (x : Int) : wrap64 (x + 1) ≠ x := by
  unfold wrap64
  omega

set_option maxHeartbeats 2000000 in
theorem tableSame_walk (A : Option Addr) (n c : Nat) (l : List V) (B : Option Addr) (m d : Nat) (r : List V) (t : Int) (w : World) (ha : SegV w A n l) (_ : n ≤ c) (_ : c ≤ maxLen) (hwl : ∀ x ∈ l, x.Wide)
    (hp : SegV w B m r) (_ : m ≤ d) (_ : d ≤ maxLen) (hwr : ∀ x ∈ r, x.Wide) (ht : (Lit.int .u8 t).wf = true) :
    Calls Try.prog 9 #[.slice A n c, .slice B m d, .int .u8 t] w fun e w' => e = .returned (.bool true) ∧ Below w.heap.size w w' := by
  have ht0 := (bounds_u8 ht).1
  have ht1 := (bounds_u8 ht).2
  clear ht
  have hll : (l.map ofW).length = n := by rw [List.length_map, ha.1]
  have hrr : (r.map ofW).length = m := by rw [List.length_map, hp.1]
  have hvl := ofW_allS hwl
  by_cases h1 : n ≤ 10 ∧ m ≤ 10
  · obtain ⟨h1, h2⟩ := h1
    have h1' : decide ((10 : Int) < (n : Int)) = false := decide_eq_false (by omega)
    have h2' : decide ((10 : Int) < (m : Int)) = false := decide_eq_false (by omega)
    go_enter Try.func9, Try.ntmps9
    go_wp2_with fail
    refine (tnoughts_any _).mono ?_
    rintro e w1 ⟨rfl, hb1⟩
    replace ha := ha.below hb1
    replace hp := hp.below hb1
    go_wp2_with fail
    refine (values_any A n c l _ ha (by omega) (wideS hwl)).mono ?_
    rintro e w2 ⟨r2, rfl, ho2, hb2⟩
    have hbw2 : Below w.heap.size w w2 := Below.next' hb1 hb2 hb1.size
    replace hp := hp.below hb2
    generalize l.map ofW = L at *
    obtain ⟨A2, c2, rfl, hs2, hlc2, hcm2⟩ := ho2.forms
    rw [hll] at hs2 hlc2 ⊢
    clear ho2 hb2 ha
    go_wp2_with fail
    refine (values_any B m d r _ hp (by omega) (wideS hwr)).mono ?_
    rintro e w3 ⟨r3, rfl, ho3, hb3⟩
    have hbw3 : Below w.heap.size w w3 := Below.next' hbw2 hb3 hbw2.size
    replace hs2 := hs2.below hb3
    generalize r.map ofW = R at *
    obtain ⟨A3, c3, rfl, hs3, hlc3, hcm3⟩ := ho3.forms
    rw [hrr] at hs3 hlc3 ⊢
    clear ho3 hb3 hp
    have HLL := Lib.hid hll
    have HRR := Lib.hid hrr
    clear hll hrr
    by_cases hn0 : n = 0
    · subst hn0
      obtain rfl : L = [] := List.eq_nil_of_length_eq_zero HLL.out
      go_wp2_with (
        at_builtin
        refine wpList_append_vals _ rfl (.const (.slice none 0 0)) (.tmp 27) _ _ vt rfl w3.heap.size (.slice none 0 0) [] rfl (OwnV.nil _ _ _) A2 0 c2 [] rfl hs2 (by simp) (Nat.le_refl _) ?_
        intro v4 w4 ho4 hg4 _
        have hb4 : Below w3.heap.size w3 w4 := below_grownV (Below.refl _ _) (OwnV.nil _ w3.heap.size 0) hg4 (Nat.le_refl _) (Nat.le_refl _)
        obtain ⟨A4, c4, rfl, hs4, hlc4, hcm4⟩ := ho4.forms
        simp only [List.append_nil, List.length_nil])
      have hbw4 : Below w.heap.size w w4 := Below.next' hbw3 hb4 hbw3.size
      replace hs2 := hs2.below hb4
      replace hs3 := hs3.below hb4
      refine (tsame_any A2 none 0 0 c2 0 [] [] true _ hs2 (SegV.nil _ _) (by omega) (by simp)).mono ?_
      rintro e w5 ⟨rfl, hb5⟩
      have hbw5 : Below w.heap.size w w5 := Below.next' hbw4 hb5 hbw4.size
      replace hs2 := hs2.below hb5
      replace hs3 := hs3.below hb5
      clear hb5 hb4
      by_cases hm0 : m = 0
      · subst hm0
        obtain rfl : R = [] := List.eq_nil_of_length_eq_zero HRR.out
        go_wp2_with fail
        refine (tsame_any A2 A3 0 0 c2 c3 [] [] true _ hs2 hs3 (by omega) (by simp)).mono ?_
        rintro e w6 ⟨rfl, hb6⟩
        go_wp2
        go_ret
        exact ⟨rfl, Below.next' hbw5 hb6 hbw5.size⟩
      · have hme : ((m : Int) == 0) = false := by rw [beq_eq_false_iff_ne]; omega
        have hne : ([] : List V) ≠ R := by rintro rfl; exact hm0 HRR.out.symm
        go_wp2_with fail
        refine (tsame_any A2 A3 0 m c2 c3 [] R false _ hs2 hs3 (by omega) (by simpa using hne)).mono ?_
        rintro e w6 ⟨rfl, hb6⟩
        go_wp2
        go_ret
        exact ⟨rfl, Below.next' hbw5 hb6 hbw5.size⟩
    · have hne0 : ((n : Int) == 0) = false := by rw [beq_eq_false_iff_ne]; omega
      obtain ⟨i, hi⟩ : ∃ i : Nat, t % (n : Int) = (i : Int) := ⟨(t % (n : Int)).toNat, by have := Int.emod_nonneg t (show (n : Int) ≠ 0 by omega); omega⟩
      have hiN : i < n := by have := Int.emod_lt_of_pos t (show (0 : Int) < (n : Int) by omega); omega
      have hi0 : (0 : Int) ≤ (i : Int) := by omega
      have hi1 : (i : Int) < (n : Int) := by omega
      go_wp2_with (
        at_builtin
        refine wpList_append_vals _ rfl (.const (.slice none 0 0)) (.tmp 27) _ _ vt rfl w3.heap.size (.slice none 0 0) [] rfl (OwnV.nil _ _ _) A2 n c2 L rfl hs2 (by simp; omega) (Nat.le_refl _) ?_
        intro v4 w4 ho4 hg4 _
        have hb4 : Below w3.heap.size w3 w4 := below_grownV (Below.refl _ _) (OwnV.nil _ w3.heap.size 0) hg4 (Nat.le_refl _) (Nat.le_refl _)
        rw [List.nil_append] at ho4
        obtain ⟨g, cap, y, rfl, hg, hgl, hcl, hfr, hcap1, hcap2, hset⟩ := own_setNn ho4 HLL.out i hiN
        obtain ⟨L', hsL, hneL⟩ := hset (wrap64 (y + 1))
        have HNE := Lib.hid (hneL (wrap_ne y))
        clear hset hneL)
      have hb5 : Below w3.heap.size w3 (w4.setCell ⟨g, i * 3 + 1, none⟩ (.int .i64 (wrap64 (y + 1)))) := hb4.setCell hg _
      generalize w4.setCell ⟨g, i * 3 + 1, none⟩ (.int .i64 (wrap64 (y + 1))) = W at *
      have hbw5 : Below w.heap.size w W := Below.next' hbw3 hb5 hbw3.size
      replace hs2 := hs2.below hb5
      replace hs3 := hs3.below hb5
      clear hb5 hb4 hcl hfr
      refine (tsame_any A2 A2 n n c2 c2 L L true _ hs2 hs2 (by omega) (by simp)).mono ?_
      rintro e w6 ⟨rfl, hb6⟩
      have hbw6 : Below w.heap.size w w6 := Below.next' hbw5 hb6 hbw5.size
      replace hs2 := hs2.below hb6
      replace hs3 := hs3.below hb6
      replace hsL := hsL.below hb6
      clear hb6
      obtain ⟨b, hb⟩ : ∃ b : Bool, b = true ↔ L = R := by
        by_cases h : L = R
        · exact ⟨true, by simp [h]⟩
        · exact ⟨false, by simp [h]⟩
      have HB := Lib.hid hb
      clear hb
      go_wp2_with fail
      refine (tsame_any A2 A3 n m c2 c3 L R b _ hs2 hs3 (by omega) HB.out).mono ?_
      rintro e w7 ⟨rfl, hb7⟩
      have hbw7 : Below w.heap.size w w7 := Below.next' hbw6 hb7 hbw6.size
      replace hs2 := hs2.below hb7
      replace hs3 := hs3.below hb7
      replace hsL := hsL.below hb7
      clear hb7
      go_wp2_with fail
      refine (sameL_is A2 A3 n m c2 c3 L R b _ hs2 hs3 (by omega) HB.out).mono ?_
      rintro e w8 ⟨rfl, hb8⟩
      have hbw8 : Below w.heap.size w w8 := Below.next' hbw7 hb8 hbw7.size
      replace hs2 := hs2.below hb8
      replace hsL := hsL.below hb8
      clear hb8 hs3
      have hbb : (b == b) = true := by simp
      go_wp2_with fail
      refine (tsame_any A2 _ n n c2 cap L L' false _ hs2 hsL (by omega) (by simpa using HNE.out)).mono ?_
      rintro e w9 ⟨rfl, hb9⟩
      have hbw9 : Below w.heap.size w w9 := Below.next' hbw8 hb9 hbw8.size
      replace hs2 := hs2.below hb9
      clear hb9 hsL
      obtain ⟨g2, o2, rfl, _, _, _⟩ := hs2.at_ (k := 0) (by omega)
      have hsd := hs2.from_ 1 c2 (by omega) hlc2
      obtain ⟨Ad, hAd⟩ : ∃ Ad, (if c2 = 1 then some (⟨g2, o2, none⟩ : Addr) else some ⟨g2, o2 + 1 * 3, none⟩) = Ad := ⟨_, rfl⟩
      rw [hAd] at hsd
      have hn1 : (1 : Int) ≤ (n : Int) := by omega
      have hdn := drop_ne L (by rw [HLL.out]; omega)
      have HDN := Lib.hid hdn
      clear hdn
      go_wp2_with fail
      refine (tsame_any _ Ad n (n - 1) c2 (c2 - 1) L (L.drop 1) false _ hs2 hsd (by omega) (by simpa using HDN.out)).mono ?_
      rintro e w10 ⟨rfl, hb10⟩
      go_wp2
      go_ret
      exact ⟨rfl, Below.next' hbw9 hb10 hbw9.size⟩
  · have h1' : decide ((10 : Int) < (n : Int)) = true ∨ (decide ((10 : Int) < (n : Int)) = false ∧ decide ((10 : Int) < (m : Int)) = true) := by
      by_cases h : n ≤ 10
      · exact .inr ⟨decide_eq_false (by omega), decide_eq_true (by omega)⟩
      · exact .inl (decide_eq_true (by omega))
    rcases h1' with h1' | ⟨h1', h2'⟩
    all_goals
      go_enter Try.func9, Try.ntmps9
      go_wp2_with fail
      refine (tnoughts_any _).mono ?_
      rintro e w1 ⟨rfl, hb1⟩
      go_wp2_with fail
      refine (tnoughts_any _).mono ?_
      rintro e w2 ⟨rfl, hb2⟩
      go_wp2
      go_ret
      exact ⟨rfl, Below.next' hb1 hb2 hb1.size⟩

end Go.Proofs.Ytcmagjeplofagaa
