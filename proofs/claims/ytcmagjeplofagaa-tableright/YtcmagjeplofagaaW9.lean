/-
  What makes a value of a word, with the world behind it written out.
-/
import Derived.Test.YtcmagjeplofagaaW8
import Derived.Handy
namespace Go.Proofs.Ytcmagjeplofagaa
open Go.RowKit
open Go.WideShapes (bytes_inj)

set_option maxHeartbeats 400000 in
theorem of_exact (x : V) (w : World) (hk0 : 0 ≤ x.k) (hk1 : x.k ≤ 255) (hs : x.s.size ≤ maxLen) :
    Calls Try.prog 18 #[.agg #[.int .u8 x.k, .int .i64 x.n, .string x.s]] w fun e w' => e = .returned (.agg #[.int .u8 (ofW x).k, .int .i64 (ofW x).n, .string (ofW x).s]) ∧ w' = (w.alloc (.cells #[.int .u8 x.k, .int .i64 x.n, .string x.s] 36)).alloc (.cells #[.int .u8 (ofW x).k, .int .i64 (ofW x).n, .string (ofW x).s] 41) := by
  unfold maxLen at hs
  by_cases h0 : x.k % 4 = 0
  · have e : ofW x = V.none := by unfold ofW; rw [if_pos h0]
    rw [e]
    clear e
    go_enter Try.func18, Try.ntmps18
    go_wp2
    refine bodyPost_ret (v := .agg #[.int .u8 0, .int .i64 0, .string ⟨#[]⟩]) (by simp [results, Try.results18, go_sem]) rfl ⟨rfl, rfl⟩
  · have z0 : (x.k % 4 == 0) = false := by simpa using h0
    by_cases h1 : x.k % 4 = 1
    · have e : ofW x = ⟨1, x.n, ⟨#[]⟩⟩ := by unfold ofW; rw [if_neg h0, if_pos h1]
      rw [e]
      clear e z0 h0
      go_enter Try.func18, Try.ntmps18
      go_wp2
      refine bodyPost_ret (v := .agg #[.int .u8 1, .int .i64 x.n, .string ⟨#[]⟩]) (by simp [results, Try.results18, go_sem]) rfl ⟨rfl, rfl⟩
    · have z1 : (x.k % 4 == 1) = false := by simpa using h1
      have e : ofW x = ⟨2, 0, x.s.extract 0 200⟩ := by unfold ofW; rw [if_neg h0, if_neg h1]
      rw [e]
      clear e h0 h1
      by_cases h2 : 200 < x.s.size
      · go_enter Try.func18, Try.ntmps18
        go_wp2
        refine bodyPost_ret (v := .agg #[.int .u8 2, .int .i64 0, .string (x.s.extract 0 200)]) (by simp [results, Try.results18, go_sem]) rfl ⟨rfl, rfl⟩
      · have e : x.s.extract 0 200 = x.s := by
          apply bytes_inj
          rw [Lib.extract_data]
          simp
          rw [List.take_of_length_le (by simp; omega)]
        rw [e]
        clear e
        go_enter Try.func18, Try.ntmps18
        go_wp2
        refine bodyPost_ret (v := .agg #[.int .u8 2, .int .i64 0, .string x.s]) (by simp [results, Try.results18, go_sem]) rfl ⟨rfl, rfl⟩

theorem cell_drew {w : World} {a : Addr} {v : Value} (h : w.cell? a = some v) : w.drew.cell? a = some v := h
theorem cell_far {w : World} {p a : Addr} {v u : Value} (hne : p.block ≠ a.block) (h : w.cell? a = some v) : (w.setCell p u).cell? a = some v :=
  (World.cell?_setCell_other w p a u (fun e => hne (by rw [e]))).trans h
theorem cell_top {w : World} {cs : Array Value} {t : TypeId} {g j : Nat} {v : Value} (hg : g = w.heap.size) (hv : cs[j]? = some v) : (w.alloc (.cells cs t)).cell? ⟨g, j, none⟩ = some v := by
  subst hg
  rw [cell_of_row _ w.heap.size j cs t (0, 0) (heap_alloc_new w _), hv]

end Go.Proofs.Ytcmagjeplofagaa
