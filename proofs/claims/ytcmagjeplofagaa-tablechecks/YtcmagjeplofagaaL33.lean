/-
  The walk of the law TableChecks, whole.
-/
import Derived.Test.YtcmagjeplofagaaL27
namespace Go.Proofs.Ytcmagjeplofagaa
open Go.RowKit

set_option maxHeartbeats 1000000 in
set_option maxRecDepth 8000 in
theorem tableChecks_walk (A : Option Addr) (n c : Nat) (L : List Frm) (t : Int) (Ba : Option Addr) (na ca : Nat) (la : List UInt8) (a : Int) (x : V) (odd : Bool) (mo : Int) (w : World)
    (ha : SegF w A n L) (hnc : n ≤ c) (hcm : c ≤ maxLen) (ht : (Lit.int .i64 t).wf = true) (hpa : Seg w Ba na la) (_ : na ≤ ca) (_ : ca ≤ maxLen) (hat : (Lit.int .u8 a).wf = true) (hx : x.Wide) (hmo : (Lit.int .u8 mo).wf = true) :
    Calls Try.prog 4 #[.slice A n c, .int .i64 t, .slice Ba na ca, .int .u8 a, .agg #[.int .u8 x.k, .int .i64 x.n, .string x.s], .bool odd, .int .u8 mo] w fun e w' => e = .returned (.bool true) ∧ Below w.heap.size w w' := by
  have ht0 := (bounds_i64 ht).1
  have ht1 := (bounds_i64 ht).2
  have ha0 := (bounds_u8 hat).1
  have ha1 := (bounds_u8 hat).2
  have hm0 := (bounds_u8 hmo).1
  have hm1 := (bounds_u8 hmo).2
  obtain ⟨a, rfl⟩ : ∃ x : Nat, a = (x : Int) := ⟨a.toNat, by omega⟩
  obtain ⟨mo, rfl⟩ : ∃ x : Nat, mo = (x : Int) := ⟨mo.toNat, by omega⟩
  clear ht hat hmo
  by_cases hgo : fewB L = true ∧ na ≤ 12
  · exact tableChecks_core A n c L t Ba na ca la a x odd mo w ha (Nat.le_trans hnc hcm) ht0 ht1 hpa (by omega) hx (by omega) hgo.2 hgo.1
  · have h1' : fewB L = false ∨ (fewB L = true ∧ decide ((12 : Int) < (na : Int)) = true) := by
      rcases hf : fewB L with _ | _
      · exact .inl rfl
      · exact .inr ⟨rfl, decide_eq_true (by
          rcases Nat.lt_or_ge 12 na with h' | h'
          · omega
          · exact absurd ⟨hf, h'⟩ hgo)⟩
    clear hgo ht0 ht1
    rcases h1' with h1' | ⟨h1', h2'⟩
    all_goals
      have HF := Lib.hid h1'
      clear h1'
      go_enter Try.func4, Try.ntmps4
      go_wp2_with fail
      refine (tnoughts_any _).mono ?_
      rintro e w1 ⟨rfl, hb1⟩
      have hbw1 : Below w.heap.size w w1 := Below.next' ((Below.refl _ _).alloc (Nat.le_refl _) _) hb1 (by simp)
      go_wp2_with fail
      refine (few_any A n c L _ _ (SegF.below ha hbw1) (Nat.le_trans hnc hcm) HF.out).mono ?_
      rintro e w' ⟨rfl, rfl⟩
      go_wp2_with fail
      refine (tnoughts_any _).mono ?_
      rintro e w2 ⟨rfl, hb2⟩
      go_wp2
      go_ret
      exact ⟨rfl, Below.next' hbw1 hb2 hbw1.size⟩
end Go.Proofs.Ytcmagjeplofagaa
