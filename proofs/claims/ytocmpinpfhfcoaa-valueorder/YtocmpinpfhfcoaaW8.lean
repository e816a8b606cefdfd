/-
  The walks of the document's Encode, and of what makes a value of a word.
-/
import Derived.Test.YtocmpinpfhfcoaaW7
import Derived.Deep.RegionWith
import Derived.Lib.Strings
import Derived.WideShapes
namespace Go.Proofs.Ytocmpinpfhfcoaa
open Go.RowKit
open Go.WideShapes (bytes_inj)

/-- A value made of a word. -/
def ofW (x : V) : V :=
  if x.k % 4 = 0 then V.none else if x.k % 4 = 1 then ⟨1, x.n, ⟨#[]⟩⟩ else ⟨2, 0, x.s.extract 0 200⟩

theorem size_extract200 (s : ByteArray) : (s.extract 0 200).size ≤ 200 := by
  rw [ByteArray.size_extract]; omega

theorem ofW_ok (x : V) (h1 : -9223372036854775808 ≤ x.n) (h2 : x.n ≤ 9223372036854775807) : (ofW x).Ok := by
  unfold ofW
  split
  · exact .inl ⟨rfl, rfl, rfl⟩
  · split
    · exact .inr (.inl ⟨rfl, rfl, h1, h2⟩)
    · exact .inr (.inr ⟨rfl, rfl, size_extract200 _⟩)

set_option maxHeartbeats 400000 in
theorem of_any (x : V) (w : World) (hk0 : 0 ≤ x.k) (hk1 : x.k ≤ 255) (hs : x.s.size ≤ maxLen) :
    Calls Try.prog 4 #[.agg #[.int .u8 x.k, .int .i64 x.n, .string x.s]] w fun e w' => e = .returned (.agg #[.int .u8 (ofW x).k, .int .i64 (ofW x).n, .string (ofW x).s]) ∧ Below w.heap.size w w' := by
  unfold maxLen at hs
  by_cases h0 : x.k % 4 = 0
  · have e : ofW x = V.none := by unfold ofW; rw [if_pos h0]
    rw [e]
    clear e
    go_enter Try.func4, Try.ntmps4
    go_wp2
    refine bodyPost_ret (v := .agg #[.int .u8 0, .int .i64 0, .string ⟨#[]⟩]) (by simp [results, Try.results4, go_sem]) rfl ⟨rfl, ?_⟩
    exact ((Below.refl _ _).alloc (Nat.le_refl _) _).alloc (by simp) _
  · have z0 : (x.k % 4 == 0) = false := by simpa using h0
    by_cases h1 : x.k % 4 = 1
    · have e : ofW x = ⟨1, x.n, ⟨#[]⟩⟩ := by unfold ofW; rw [if_neg h0, if_pos h1]
      rw [e]
      clear e z0 h0
      go_enter Try.func4, Try.ntmps4
      go_wp2
      refine bodyPost_ret (v := .agg #[.int .u8 1, .int .i64 x.n, .string ⟨#[]⟩]) (by simp [results, Try.results4, go_sem]) rfl ⟨rfl, ?_⟩
      exact ((Below.refl _ _).alloc (Nat.le_refl _) _).alloc (by simp) _
    · have z1 : (x.k % 4 == 1) = false := by simpa using h1
      have e : ofW x = ⟨2, 0, x.s.extract 0 200⟩ := by unfold ofW; rw [if_neg h0, if_neg h1]
      rw [e]
      clear e h0 h1
      by_cases h2 : 200 < x.s.size
      · go_enter Try.func4, Try.ntmps4
        go_wp2
        refine bodyPost_ret (v := .agg #[.int .u8 2, .int .i64 0, .string (x.s.extract 0 200)]) (by simp [results, Try.results4, go_sem]) rfl ⟨rfl, ?_⟩
        exact ((Below.refl _ _).alloc (Nat.le_refl _) _).alloc (by simp) _
      · have e : x.s.extract 0 200 = x.s := by
          apply bytes_inj
          rw [Lib.extract_data]
          simp
          rw [List.take_of_length_le (by simp; omega)]
        rw [e]
        clear e
        go_enter Try.func4, Try.ntmps4
        go_wp2
        refine bodyPost_ret (v := .agg #[.int .u8 2, .int .i64 0, .string x.s]) (by simp [results, Try.results4, go_sem]) rfl ⟨rfl, ?_⟩
        exact ((Below.refl _ _).alloc (Nat.le_refl _) _).alloc (by simp) _

theorem Seg.one' (w : World) (x : Int) (t : TypeId) (g : Nat) (b : UInt8) (hg : g = w.heap.size) (h : x = (b.toNat : Int)) : Seg (w.alloc (.cells #[.int .u8 x] t)) (some ⟨g, 0, none⟩) 1 [b] := by
  subst hg
  exact Seg.one w x t b h
theorem bytesBelow (W : World) (e : TypeId) (s : ByteArray) : Below W.heap.size W (Lib.bytesWorld W e s) :=
  ⟨rfl, rfl, rfl, by rw [Lib.bytesWorld_size]; omega, fun k hk => Lib.bytesWorld_at_old W e s k hk⟩
theorem bytesSeg (W : World) (e : TypeId) (s : ByteArray) : Seg (Lib.bytesWorld W e s) (some ⟨W.heap.size, 0, none⟩) s.size s.data.toList := by
  refine ⟨by simp, fun _ => ⟨_, _, rfl, fun j b hb => ?_⟩⟩
  have hj : j < s.size := by
    have := (List.getElem?_eq_some_iff.1 hb).1
    simpa using this
  rw [Nat.zero_add, Lib.bytesWorld_cell W e s j hj, List.getD_eq_getElem?_getD, hb]
  rfl

end Go.Proofs.Ytocmpinpfhfcoaa
