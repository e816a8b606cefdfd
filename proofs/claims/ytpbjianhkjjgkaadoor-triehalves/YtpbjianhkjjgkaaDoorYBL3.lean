/-
  The walk of the law TrieHalves.
-/
import Derived.Test.YtpbjianhkjjgkaaDoorYMA09
import Derived.Test.YtpbjianhkjjgkaaDoorZ21
import Derived.Test.YtpbjianhkjjgkaaDoorZ15
import Derived.Test.YtpbjianhkjjgkaaDoorYL60
namespace Go.Proofs.YtpbjianhkjjgkaaDoor
open Go.RowKit

set_option maxHeartbeats 4000000 in
theorem tleaf_not (f : Nat) (m : List It) (d : Nat) (v : Value) (w : World) (hd : d + f = 256) (hg : Good m d) (hv : TreeAt w (tree f m d) v) (h1 : m.length ≠ 1) :
    Calls Tryd.prog 34 #[v] w fun e w' => e = .returned (.tuple #[.string ⟨#[]⟩, .slice none 0 0, .bool false]) ∧ w' = w := by
  have hlen := tlen_any _ _ _ hv
  rw [tree_cnt f m d hd hg] at hlen
  obtain ⟨q, rfl⟩ := hv.ptr
  have HLEN := Lib.hid hlen
  obtain ⟨n, hn⟩ : ∃ n, m.length = n := ⟨_, rfl⟩
  rw [hn] at HLEN h1
  have d1 : ((n : Int) != 1) = true := by simp; omega
  clear hlen hv hn hg
  go_enter Tryd.func34, Tryd.ntmps34
  go_wp2_with fail
  refine HLEN.out.mono ?_
  rintro e w1 ⟨rfl, rfl⟩
  go_wp2
  go_ret3
  exact ⟨rfl, rfl⟩

def bitB (b : Bool) : Nat := if b then 1 else 0
/-- What is left of items behind a path's first turns. -/
def pathI (pb : List Bool) (m : List It) : Nat → List It
  | 0 => m
  | d + 1 => halfI (pathI pb m d) d (bitB (pb.getD d false))
theorem pathI_good {pb : List Bool} {m : List It} (h : Good m 0) : ∀ d, Good (pathI pb m d) d
  | 0 => h
  | d + 1 => (pathI_good h d).half _
theorem pathI_sub {pb : List Bool} {m : List It} : ∀ d, ∀ x ∈ pathI pb m d, x ∈ m
  | 0, _, h => h
  | d + 1, x, h => pathI_sub d x ((mem_half x).1 h).1
theorem pathI_len (pb : List Bool) (m : List It) : ∀ d, (pathI pb m d).length ≤ m.length
  | 0 => Nat.le_refl _
  | d + 1 => Nat.le_trans (List.length_filter_le _ _) (pathI_len pb m d)

end Go.Proofs.YtpbjianhkjjgkaaDoor
