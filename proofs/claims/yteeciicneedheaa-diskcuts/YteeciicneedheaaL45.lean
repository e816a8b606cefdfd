/-
  The walk of the law DiskCuts.
-/
import Derived.Test.YteeciicneedheaaL45a
import Derived.Test.YteeciicneedheaaL45b
namespace Go.Proofs.Yteeciicneedheaa
open Go.RowKit

set_option maxRecDepth 8000 in
set_option maxHeartbeats 4000000 in
theorem diskCuts_long (A : Option Addr) (n c : Nat) (A' : Option Addr) (n' c' : Nat) (x : Int) (b : Bool) (w : World) (h : ¬ (n ≤ 40 ∧ n' ≤ 40)) :
    Calls Try.prog 8 #[.slice A n c, .slice A' n' c', .int .i64 x, .bool b] w fun e w' => e = .returned (.bool true) ∧ Below w.heap.size w w' := by
  have hc : 40 < n ∨ n ≤ 40 ∧ 40 < n' := by omega
  rcases hc with g0 | ⟨g0, g1⟩
  · have d0 : decide ((40 : Int) < (n : Int)) = true := decide_eq_true (by omega)
    go_enter Try.func8, Try.ntmps8
    go_wp2_with fail
    refine (keeps_any _).mono ?_
    rintro e w1 ⟨rfl, hb1⟩
    go_wp2_with fail
    refine (keeps_any _).mono ?_
    rintro e w2 ⟨rfl, hb2⟩
    go_wp2
    go_ret
    exact ⟨rfl, Below.next' hb1 hb2 hb1.size⟩
  · have d0 : decide ((40 : Int) < (n : Int)) = false := decide_eq_false (by omega)
    have d1 : decide ((40 : Int) < (n' : Int)) = true := decide_eq_true (by omega)
    go_enter Try.func8, Try.ntmps8
    go_wp2_with fail
    refine (keeps_any _).mono ?_
    rintro e w1 ⟨rfl, hb1⟩
    go_wp2_with fail
    refine (keeps_any _).mono ?_
    rintro e w2 ⟨rfl, hb2⟩
    go_wp2
    go_ret
    exact ⟨rfl, Below.next' hb1 hb2 hb1.size⟩

theorem diskCuts_walk (A : Option Addr) (n c : Nat) (l : List UInt8) (A' : Option Addr) (n' c' : Nat) (l' : List UInt8) (x : Int) (b : Bool) (w : World) (ha : Seg w A n l) (_ : n ≤ c) (_ : c ≤ maxLen) (ha' : Seg w A' n' l') (_ : n' ≤ c') (_ : c' ≤ maxLen) (_ : (Lit.int .i64 x).wf = true) :
    Calls Try.prog 8 #[.slice A n c, .slice A' n' c', .int .i64 x, .bool b] w fun e w' => e = .returned (.bool true) ∧ Below w.heap.size w w' := by
  by_cases hall : n ≤ 40 ∧ n' ≤ 40
  · obtain ⟨h1, h2⟩ := hall
    by_cases hlo : x < 0
    · rcases b with _ | _
      · exact diskCutsfalseLow A n c l A' n' c' l' x w ha ha' h1 h2 hlo
      · exact diskCutstrueLow A n c l A' n' c' l' x w ha ha' h1 h2 hlo
    · by_cases hhi : ((n + n' : Nat) : Int) < x
      · rcases b with _ | _
        · exact diskCutsfalseHigh A n c l A' n' c' l' x w ha ha' h1 h2 hhi
        · exact diskCutstrueHigh A n c l A' n' c' l' x w ha ha' h1 h2 hhi
      · obtain ⟨y, rfl⟩ := Int.eq_ofNat_of_zero_le (show 0 ≤ x by omega)
        rcases b with _ | _
        · exact diskCutsfalseMid A n c l A' n' c' l' y w ha ha' h1 h2 (by omega)
        · exact diskCutstrueMid A n c l A' n' c' l' y w ha ha' h1 h2 (by omega)
  · exact diskCuts_long A n c A' n' c' x b w hall

end Go.Proofs.Yteeciicneedheaa
