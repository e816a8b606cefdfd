/-
  What both Gets answer of a law's key; the walk of the law TriePlays.
-/
import Derived.Test.YtpbjianhkjjgkaaDoorYBK2
import Derived.Test.YtpbjianhkjjgkaaDoorYBL3
import Derived.Test.YtpbjianhkjjgkaaDoorZ15
import Derived.Test.YtpbjianhkjjgkaaDoorZ20
namespace Go.Proofs.YtpbjianhkjjgkaaDoor
open Go.RowKit

theorem run_kk (W : World) (k : Nat) (hk : k < 24) :
    (convert 29 9 (.slice (some ⟨W.heap.size, 0, none⟩) 2 2)).run Tryd.prog (W.alloc (.cells #[.int .u8 107, .int .u8 (k : Int)] 5)) = .ok (.string (keyOf k)) (W.alloc (.cells #[.int .u8 107, .int .u8 (k : Int)] 5)) := by
  rw [run_string_seg (P := Tryd.prog) _ 29 9 5 bt Tryd.underlying9 _ 2 2 [107, UInt8.ofNat k] (Seg.newAt W _ 5 _ _ 2 rfl (by simp [cellsB]; omega) rfl)]
  unfold keyOf keyB
  rw [if_pos hk]
theorem getS_in {w : World} {k : Nat} {l : List UInt8} : ∀ {S : List ItS} {m : List It}, ItsAt w S m → Asc m → (∀ x ∈ m, keyOf x.1 = keyOf k ↔ x.1 = k) → (k, l) ∈ m → ∃ s, getS (keyOf k) S = some s ∧ ItAt w s (k, l)
  | [], [], _, _, _, h => by cases h
  | s :: S, x :: m, h, ha, hk, hm => by
    by_cases e : x.1 = k
    · refine ⟨s, ?_, ?_⟩
      · show (if s.s = keyOf k then some s else getS (keyOf k) S) = some s
        rw [if_pos (by rw [h.1.1, e])]
      · have : x = (k, l) := asc_key ha (List.mem_cons_self ..) hm e
        rw [← this]
        exact h.1
    · have hm' : (k, l) ∈ m := by
        rcases List.mem_cons.1 hm with e2 | h2
        · exact absurd (by rw [← e2]) e
        · exact h2
      obtain ⟨s', h1, h2⟩ := getS_in h.2 (List.pairwise_cons.1 ha).2 (fun y hy => hk y (List.mem_cons_of_mem _ hy)) hm'
      refine ⟨s', ?_, h2⟩
      show (if s.s = keyOf k then some s else getS (keyOf k) S) = some s'
      rw [if_neg (fun h3 => e ((hk x (List.mem_cons_self ..)).1 (by rw [← h.1.1]; exact h3)))]
      exact h1
  | [], _ :: _, h, _, _, _ => h.elim
  | _ :: _, [], h, _, _, _ => h.elim
theorem getS_out {w : World} {K : ByteArray} : ∀ {S : List ItS} {m : List It}, ItsAt w S m → (∀ x ∈ m, keyOf x.1 ≠ K) → getS K S = none
  | [], [], _, _ => rfl
  | s :: S, x :: m, h, hk => by
    show (if s.s = K then some s else getS K S) = none
    rw [if_neg (fun e => hk x (List.mem_cons_self ..) (by rw [← h.1.1]; exact e))]
    exact getS_out h.2 fun y hy => hk y (List.mem_cons_of_mem _ hy)
  | [], _ :: _, h, _ => h.elim
  | _ :: _, [], h, _ => h.elim
theorem u8_in (x : Int) (h0 : 0 ≤ x) (h1 : x < 256) : IntKind.u8.wrap x = x := by
  show x % 256 = x
  omega

end Go.Proofs.YtpbjianhkjjgkaaDoor
