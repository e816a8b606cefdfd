/-
  The walk of the law TableRight, whole.
-/
import Derived.Test.YtcmagjeplofagaaL26
namespace Go.Proofs.Ytcmagjeplofagaa
open Go.RowKit

set_option maxHeartbeats 1000000 in
set_option maxRecDepth 8000 in
theorem tableRight_walk (A : Option Addr) (n c : Nat) (L : List Frm) (wh a nn : Int) (w : World)
    (ha : SegF w A n L) (hnc : n ≤ c) (hcm : c ≤ maxLen) (hwh : (Lit.int .u8 wh).wf = true) (hat : (Lit.int .u8 a).wf = true) (hnn : (Lit.int .u8 nn).wf = true) :
    Calls Try.prog 3 #[.slice A n c, .int .u8 wh, .int .u8 a, .int .u8 nn] w fun e w' => e = .returned (.bool true) ∧ Below w.heap.size w w' := by
  have hw0 := (bounds_u8 hwh).1
  have hw1 := (bounds_u8 hwh).2
  have ha0 := (bounds_u8 hat).1
  have ha1 := (bounds_u8 hat).2
  have hn0 := (bounds_u8 hnn).1
  have hn1 := (bounds_u8 hnn).2
  obtain ⟨wh, rfl⟩ : ∃ x : Nat, wh = (x : Int) := ⟨wh.toNat, by omega⟩
  obtain ⟨a, rfl⟩ : ∃ x : Nat, a = (x : Int) := ⟨a.toNat, by omega⟩
  obtain ⟨nn, rfl⟩ : ∃ x : Nat, nn = (x : Int) := ⟨nn.toNat, by omega⟩
  clear hwh hat hnn
  rcases hf : fewB L with _ | _
  · have HF := Lib.hid hf
    clear hf
    go_enter Try.func3, Try.ntmps3
    go_wp2_with fail
    refine (tnoughts_any _).mono ?_
    rintro e w1 ⟨rfl, hb1⟩
    go_wp2_with fail
    refine (few_any A n c L _ _ (SegF.below ha hb1) (Nat.le_trans hnc hcm) HF.out).mono ?_
    rintro e w' ⟨rfl, rfl⟩
    go_wp2_with fail
    refine (tnoughts_any _).mono ?_
    rintro e w2 ⟨rfl, hb2⟩
    go_wp2
    go_ret
    exact ⟨rfl, Below.next' hb1 hb2 hb1.size⟩
  · exact tableRight_core A n c L wh a nn w ha (Nat.le_trans hnc hcm) (by omega) (by omega) (by omega) hf

end Go.Proofs.Ytcmagjeplofagaa
