/-
  The reader: its state in memory ('Rd': the bytes, and how far it has read), and its smallest step, 'take'.
-/
import Derived.Test.YtipfhcljdginoaaDoorWE3
import Derived.Test.YtipfhcljdginoaaDoorWE4
namespace Go.Proofs.YtipfhcljdginoaaDoor
open Go.RowKit

/-- A reader at block g: of the slice (A, n, c), at place k. -/
structure Rd (w : World) (g : Nat) (A : Option Addr) (n c k : Nat) : Prop where
  p : w.cell? ⟨g, 0, none⟩ = some (.slice A n c)
  at_ : w.cell? ⟨g, 1, none⟩ = some (.int .i64 (k : Int))
  fr : w.frozen? ⟨g, 1, none⟩ = false

set_option maxHeartbeats 4000000 in
theorem take_short (g : Nat) (A : Option Addr) (n c k m : Nat) (w : World) (hr : Rd w g A n c k) (_hn : n ≤ 1099511627776) (hk : k ≤ n) (hm : m ≤ 1000000) (h : n - k < m) :
    Calls Tryd.prog 37 #[.pointer (some ⟨g, 0, none⟩), .int .i64 (m : Int)] w fun e w' => e = .returned (.tuple #[.slice none 0 0, metV k 3]) ∧ ∃ q, w' = w.drewN q := by
  have hp := hr.p
  have ha := hr.at_
  have hlt : ((n : Int) - (k : Int) < (m : Int)) := by omega
  go_enter Tryd.func37, Tryd.ntmps37
  go_wp2
  go_quiet (fail)
  go_wp2
  go_quiet (fail)
  go_wp2
  go_ret2
  exact ⟨rfl, _, World.drewN_drewN _ _ _⟩

theorem grown_setCell (w : World) (p : Addr) (v : Value) : w.grownBy (w.setCell p v) (some p.block) :=
  ⟨rfl, rfl, rfl, by simp [World.setCell], fun k _ hne => Below.heap_setCell w p v k (fun e => hne (by rw [e]))⟩
theorem grown_drewN (w : World) (q : Nat) (row : Option Nat) : w.grownBy (w.drewN q) row := ⟨rfl, rfl, rfl, Nat.le_refl _, fun _ _ _ => rfl⟩
theorem Rd.set {w : World} {g : Nat} {A : Option Addr} {n c k : Nat} (h : Rd w g A n c k) (j : Nat) : Rd (w.setCell ⟨g, 1, none⟩ (.int .i64 (j : Int))) g A n c j := by
  have hne : (⟨g, 1, none⟩ : Addr) ≠ ⟨g, 0, none⟩ := by simp
  exact ⟨by rw [World.cell?_setCell_other (h := hne)]; exact h.p, World.cell?_setCell_same _ _ _ h.at_, by rw [World.frozen?_setCell]; exact h.fr⟩
theorem Rd.drewN {w : World} {g : Nat} {A : Option Addr} {n c k : Nat} (h : Rd w g A n c k) (q : Nat) : Rd (w.drewN q) g A n c k := ⟨h.p, h.at_, h.fr⟩

/-- What 'take' answers where there are as many bytes: that piece. -/
def TakeP (w : World) (g : Nat) (A : Option Addr) (n c k m : Nat) (l : List UInt8) (e : Ending) (w' : World) : Prop :=
  ∃ A' c', e = .returned (.tuple #[.slice A' m c', .nilIface]) ∧ (∀ W, Seg W A n l → Seg W A' m ((l.drop k).take m)) ∧ m ≤ c' ∧ c' ≤ maxLen ∧ Rd w' g A n c (k + m) ∧ w.grownBy w' (some g)

set_option maxHeartbeats 4000000 in
theorem take_ok (g : Nat) (A : Option Addr) (n c k m : Nat) (l : List UInt8) (w : World) (hr : Rd w g A n c k) (hn : n ≤ 1099511627776) (hnc : n ≤ c) (hcm : c ≤ maxLen) (hm : m ≤ 1000000) (hkm : k + m ≤ n) :
    Calls Tryd.prog 37 #[.pointer (some ⟨g, 0, none⟩), .int .i64 (m : Int)] w (TakeP w g A n c k m l) := by
  have hp := hr.p
  have ha := hr.at_
  have hf := hr.fr
  have hlt : ¬ ((n : Int) - (k : Int) < (m : Int)) := by omega
  go_enter Tryd.func37, Tryd.ntmps37
  go_wp2
  go_quiet (fail)
  go_wp2
  go_quiet (fail)
  go_wp2
  all_goals go_ret2
  · have hck : c = k := by assumption
    rw [hck] at hr
    obtain rfl : m = 0 := by omega
    refine ⟨_, _, rfl, fun W hs => by simpa using Seg.nil W A, Nat.le_refl _, Nat.zero_le _, ?_, ?_⟩
    · have e : ((k : Int) + ((0 : Nat) : Int)) = ((k + 0 : Nat) : Int) := by omega
      rw [e]
      exact (hr.drewN _).set _
    · exact (grown_drewN w _ _).trans (grown_setCell _ _ _)
  · refine ⟨_, _, rfl, fun W hs => ?_, by omega, by omega, ?_, ?_⟩
    · have := hs.cut k (k + m) (by omega) hkm
      rw [Nat.add_sub_cancel_left] at this
      exact this
    · have e : ((k : Int) + (m : Int)) = ((k + m : Nat) : Int) := by omega
      rw [e]
      exact (hr.drewN _).set _
    · exact (grown_drewN w _ _).trans (grown_setCell _ _ _)

set_option maxHeartbeats 4000000 in
theorem number_short (g : Nat) (A : Option Addr) (n c k m : Nat) (a b : Int) (w : World) (hr : Rd w g A n c k) (hn : n ≤ 1099511627776) (hk : k ≤ n) (hm : m ≤ 8) (h : n - k < m) :
    Calls Tryd.prog 31 #[.pointer (some ⟨g, 0, none⟩), .int .i64 (m : Int), .int .u64 a, .int .u64 b] w fun e w' => e = .returned (.tuple #[.int .u64 0, metV k 3]) ∧ ∃ q, w' = w.drewN q := by
  have ha := hr.at_
  have ht := take_short g A n c k m w hr hn hk (by omega) h
  unfold metV at ht ⊢
  clear hn hk hm h
  go_enter Tryd.func31, Tryd.ntmps31
  go_wp2_with (go_at_call 37; refine ht.mono ?_; rintro _ w1 ⟨rfl, q, rfl⟩)
  go_ret2
  exact ⟨rfl, q, rfl⟩

end Go.Proofs.YtipfhcljdginoaaDoor
