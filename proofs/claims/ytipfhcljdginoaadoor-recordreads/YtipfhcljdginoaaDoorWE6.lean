/-
  The reader's 'number' where there are bytes enough: too small or too great, or the number.
-/
import Derived.Test.YtipfhcljdginoaaDoorWE5
namespace Go.Proofs.YtipfhcljdginoaaDoor
open Go.RowKit

/-- The bytes do not lie in block g. -/
def Apart (A : Option Addr) (n g : Nat) : Prop := 0 < n → ∀ a, A = some a → a.block ≠ g
theorem Seg.grown {w w' : World} {A : Option Addr} {n g : Nat} {l : List UInt8} (h : Seg w A n l) (hg : w.grownBy w' (some g)) (ha : Apart A n g) : Seg w' A n l := by
  refine ⟨h.1, fun hn => ?_⟩
  obtain ⟨b, o, rfl, hc⟩ := h.2 hn
  refine ⟨b, o, rfl, fun j x hx => ?_⟩
  have := hc j x hx
  have hb : b ≠ g := ha hn _ rfl
  have hlt : b < w.heap.size := World.block_lt_of_cell? w _ this
  have e := hg.block b hlt (fun e => hb (by injection e))
  simp only [World.cell?] at this ⊢
  rw [e]
  exact this

/-- What 'number' answers where the bytes are there. -/
def NumP (w : World) (g : Nat) (A : Option Addr) (n c k m : Nat) (d : List UInt8) (least most : Int) (e : Ending) (w' : World) : Prop :=
  ((((rdN d : Nat) : Int) < least ∨ most < ((rdN d : Nat) : Int)) → e = .returned (.tuple #[.int .u64 0, metV k 2])) ∧
  (¬ (((rdN d : Nat) : Int) < least ∨ most < ((rdN d : Nat) : Int)) → e = .returned (.tuple #[.int .u64 ((rdN d : Nat) : Int), .nilIface])) ∧
  Rd w' g A n c (k + m) ∧ w.grownBy w' (some g)

set_option maxHeartbeats 4000000 in
theorem number_any (g : Nat) (A : Option Addr) (n c k m : Nat) (a b : Int) (l : List UInt8) (w : World) (hr : Rd w g A n c k) (hs : Seg w A n l) (hA : Apart A n g) (hn : n ≤ 1099511627776) (hnc : n ≤ c) (hcm : c ≤ maxLen) (hm : m ≤ 8) (hkm : k + m ≤ n) :
    Calls Tryd.prog 31 #[.pointer (some ⟨g, 0, none⟩), .int .i64 (m : Int), .int .u64 a, .int .u64 b] w (NumP w g A n c k m ((l.drop k).take m) a b) := by
  have ha := hr.at_
  have ht := take_ok g A n c k m l w hr hn hnc hcm (by omega) hkm
  obtain ⟨d, hd⟩ : ∃ d, (l.drop k).take m = d := ⟨_, rfl⟩
  unfold TakeP at ht
  rw [hd] at ht ⊢
  have HM := Lib.hid hm
  clear hn hnc hcm hkm hm hd
  obtain ⟨r, hrd⟩ : ∃ r, rdN d = r := ⟨_, rfl⟩
  unfold NumP metV
  rw [hrd]
  by_cases h1 : (r : Int) < a
  · go_enter Tryd.func31, Tryd.ntmps31
    go_wp2_with (first
      | (go_at_call 37; refine ht.mono ?_; rintro _ w1 ⟨A', c', rfl, hseg, _, _, hr1, hg1⟩)
      | (go_at_call 38; refine (rReadHigh_any A' m c' d _ (hseg _ (hs.grown hg1 hA)) HM.out).mono ?_; rintro _ _ ⟨rfl, rfl⟩; rw [hrd]))
    go_ret2
    exact ⟨fun _ => rfl, fun h => absurd (.inl h1) h, hr1, hg1⟩
  · by_cases h2 : b < (r : Int)
    · go_enter Tryd.func31, Tryd.ntmps31
      go_wp2_with (first
        | (go_at_call 37; refine ht.mono ?_; rintro _ w1 ⟨A', c', rfl, hseg, _, _, hr1, hg1⟩)
        | (go_at_call 38; refine (rReadHigh_any A' m c' d _ (hseg _ (hs.grown hg1 hA)) HM.out).mono ?_; rintro _ _ ⟨rfl, rfl⟩; rw [hrd]))
      go_ret2
      exact ⟨fun _ => rfl, fun h => absurd (.inr h2) h, hr1, hg1⟩
    · go_enter Tryd.func31, Tryd.ntmps31
      go_wp2_with (first
        | (go_at_call 37; refine ht.mono ?_; rintro _ w1 ⟨A', c', rfl, hseg, _, _, hr1, hg1⟩)
        | (go_at_call 38; refine (rReadHigh_any A' m c' d _ (hseg _ (hs.grown hg1 hA)) HM.out).mono ?_; rintro _ _ ⟨rfl, rfl⟩; rw [hrd]))
      go_ret2
      exact ⟨fun h => absurd h (by omega), fun _ => rfl, hr1, hg1⟩

end Go.Proofs.YtipfhcljdginoaaDoor
