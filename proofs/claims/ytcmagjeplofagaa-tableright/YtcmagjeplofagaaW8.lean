/-
  The walks of the document's Encode, and of what makes a value of a word.
-/
import Derived.Test.YtcmagjeplofagaaW7
import Derived.Deep.RegionWith
import Derived.Lib.Strings
import Derived.WideShapes
namespace Go.Proofs.Ytcmagjeplofagaa
open Go.RowKit
open Go.WideShapes (bytes_inj)

/-- A value made of a word. -/
def ofW (x : V) : V :=
  if x.k % 4 = 0 then V.none else if x.k % 4 = 1 then ⟨1, x.n, ⟨#[]⟩⟩ else ⟨2, 0, x.s.extract 0 200⟩

theorem size_extract200 (s : ByteArray) : (s.extract 0 200).size ≤ 200 := by
  rw [ByteArray.size_extract]; omega

theorem ofW_ok (x : V) (h1 : -9223372036854775808 ≤ x.n) (h2 : x.n ≤ 9223372036854775807) : (ofW x).Ok := by
  unfold ofW
  split
  · exact .inl ⟨rfl, rfl, rfl⟩
  · split
    · exact .inr (.inl ⟨rfl, rfl, h1, h2⟩)
    · exact .inr (.inr ⟨rfl, rfl, size_extract200 _⟩)

set_option maxHeartbeats 400000 in
theorem of_any (x : V) (w : World) (hk0 : 0 ≤ x.k) (hk1 : x.k ≤ 255) (hs : x.s.size ≤ maxLen) :
    Calls Try.prog 18 #[.agg #[.int .u8 x.k, .int .i64 x.n, .string x.s]] w fun e w' => e = .returned (.agg #[.int .u8 (ofW x).k, .int .i64 (ofW x).n, .string (ofW x).s]) ∧ Below w.heap.size w w' := by
  unfold maxLen at hs
  by_cases h0 : x.k % 4 = 0
  · have e : ofW x = V.none := by unfold ofW; rw [if_pos h0]
    rw [e]
    clear e
    go_enter Try.func18, Try.ntmps18
    go_wp2
    refine bodyPost_ret (v := .agg #[.int .u8 0, .int .i64 0, .string ⟨#[]⟩]) (by simp [results, Try.results18, go_sem]) rfl ⟨rfl, ?_⟩
    exact ((Below.refl _ _).alloc (Nat.le_refl _) _).alloc (by simp) _
  · have z0 : (x.k % 4 == 0) = false := by simpa using h0
    by_cases h1 : x.k % 4 = 1
    · have e : ofW x = ⟨1, x.n, ⟨#[]⟩⟩ := by unfold ofW; rw [if_neg h0, if_pos h1]
      rw [e]
      clear e z0 h0
      go_enter Try.func18, Try.ntmps18
      go_wp2
      refine bodyPost_ret (v := .agg #[.int .u8 1, .int .i64 x.n, .string ⟨#[]⟩]) (by simp [results, Try.results18, go_sem]) rfl ⟨rfl, ?_⟩
      exact ((Below.refl _ _).alloc (Nat.le_refl _) _).alloc (by simp) _
    · have z1 : (x.k % 4 == 1) = false := by simpa using h1
      have e : ofW x = ⟨2, 0, x.s.extract 0 200⟩ := by unfold ofW; rw [if_neg h0, if_neg h1]
      rw [e]
      clear e h0 h1
      by_cases h2 : 200 < x.s.size
      · go_enter Try.func18, Try.ntmps18
        go_wp2
        refine bodyPost_ret (v := .agg #[.int .u8 2, .int .i64 0, .string (x.s.extract 0 200)]) (by simp [results, Try.results18, go_sem]) rfl ⟨rfl, ?_⟩
        exact ((Below.refl _ _).alloc (Nat.le_refl _) _).alloc (by simp) _
      · have e : x.s.extract 0 200 = x.s := by
          apply bytes_inj
          rw [Lib.extract_data]
          simp
          rw [List.take_of_length_le (by simp; omega)]
        rw [e]
        clear e
        go_enter Try.func18, Try.ntmps18
        go_wp2
        refine bodyPost_ret (v := .agg #[.int .u8 2, .int .i64 0, .string x.s]) (by simp [results, Try.results18, go_sem]) rfl ⟨rfl, ?_⟩
        exact ((Below.refl _ _).alloc (Nat.le_refl _) _).alloc (by simp) _

theorem Seg.one' (w : World) (x : Int) (t : TypeId) (g : Nat) (b : UInt8) (hg : g = w.heap.size) (h : x = (b.toNat : Int)) : Seg (w.alloc (.cells #[.int .u8 x] t)) (some ⟨g, 0, none⟩) 1 [b] := by
  subst hg
  exact Seg.one w x t b h
theorem bytesBelow (W : World) (e : TypeId) (s : ByteArray) : Below W.heap.size W (Lib.bytesWorld W e s) :=
  ⟨rfl, rfl, rfl, by rw [Lib.bytesWorld_size]; omega, fun k hk => Lib.bytesWorld_at_old W e s k hk⟩
theorem bytesSeg (W : World) (e : TypeId) (s : ByteArray) : Seg (Lib.bytesWorld W e s) (some ⟨W.heap.size, 0, none⟩) s.size s.data.toList := by
  refine ⟨by simp, fun _ => ⟨_, _, rfl, fun j b hb => ?_⟩⟩
  have hj : j < s.size := by
    have := (List.getElem?_eq_some_iff.1 hb).1
    simpa using this
  rw [Nat.zero_add, Lib.bytesWorld_cell W e s j hj, List.getD_eq_getElem?_getD, hb]
  rfl

set_option maxHeartbeats 1000000 in
theorem rencode_any (v : V) (w : World) (hok : v.Ok) :
    Calls Try.prog 53 #[.agg #[.int .u8 v.k, .int .i64 v.n, .string v.s]] w fun e w' => ∃ r, e = .returned r ∧ Own w' w.heap.size 5 r (enc v) ∧ Below w.heap.size w w' := by
  rcases hok.cases with rfl | ⟨n, rfl, h1, h2⟩ | ⟨s, rfl, hs⟩
  · dsimp only [V.none]
    go_enter Try.func53, Try.ntmps53
    go_wp2
    go_ret
    refine ⟨_, rfl, ?_, ?_⟩
    · exact Own.one _ _ _ _ _ 0 (by simp) (by simp) rfl
    · exact ((Below.refl _ _).alloc (Nat.le_refl _) _).alloc (by simp) _
  · dsimp only
    go_enter Try.func53, Try.ntmps53
    go_wp2_with fail
    rw [u64N_eq]
    refine (num_call _ _ _ (by omega) (by omega) (by omega)).mono ?_
    rintro e w1 ⟨r1, rfl, ho1, hb1⟩
    obtain ⟨A1, c1, rfl, hs1, hlc1, hcm1⟩ := ho1.forms
    have hp1 : Seg w1 (some ⟨w.heap.size + 1, 0, none⟩) 1 [1] := (Seg.one' _ _ _ _ _ (by simp) rfl).below hb1
    have hl8 : (high ((u64N n : Int)).toNat (8 : Int).toNat).length = 8 := high_length _ _
    go_wp2_with fail
    refine (join_any _ _ _ _ _ _ [1] _ _ hp1 hs1 (by rw [hl8]; omega)).mono ?_
    rintro e w2 ⟨r2, rfl, ho2, hb2⟩
    obtain ⟨A2, c2, rfl, hs2, hlc2, hcm2⟩ := ho2.forms
    have hbb : Below (w.heap.size + 1) (w.alloc (.cells #[.int .u8 1, .int .i64 n, .string ⟨#[]⟩] 41)) w2 :=
      Below.next' (Below.next' ((Below.refl _ _).alloc (by simp) _) hb1 (by simp)) hb2 (by have := hb1.size; simp at this; omega)
    obtain ⟨hc0, hc1, hc2, _, hsz⟩ := box3B hbb (by omega)
    go_wp2
    go_ret
    refine ⟨_, rfl, ?_, ?_⟩
    · have := ho2.mono (b := w.heap.size) (by have := hb1.size; simp at this; omega)
      simpa [enc] using this
    · exact ((Below.refl _ _).alloc (Nat.le_refl _) _).trans (hbb.mono (by omega))
  · dsimp only
    have kcv := fun W => Lib.run_convert_string_bytes (P := Try.prog) W 9 31 5 s Try.underlying9 Try.underlying31 Try.underlying5
    go_enter Try.func53, Try.ntmps53
    go_wp2
    have hc2 : ((w.alloc (.cells #[.int .u8 2, .int .i64 0, .string s] 41)).alloc (.cells #[.int .u8 2] 5)).cell? ⟨w.heap.size, 2, none⟩ = some (.string s) := by
      rw [World.cell?_alloc_lt _ _ _ (by simp)]; simp
    have hp0 : Seg ((w.alloc (.cells #[.int .u8 2, .int .i64 0, .string s] 41)).alloc (.cells #[.int .u8 2] 5)) (some ⟨w.heap.size + 1, 0, none⟩) 1 [2] := Seg.one' _ _ _ _ _ (by simp) rfl
    have hbW : Below w.heap.size w ((w.alloc (.cells #[.int .u8 2, .int .i64 0, .string s] 41)).alloc (.cells #[.int .u8 2] 5)) := ((Below.refl _ _).alloc (Nat.le_refl _) _).alloc (by simp) _
    generalize (w.alloc (.cells #[.int .u8 2, .int .i64 0, .string s] 41)).alloc (.cells #[.int .u8 2] 5) = W at *
    generalize w.heap.size + 1 = b1 at *
    have hl2 : (high s.size 2).length = 2 := high_length _ _
    have hsz0 : w.heap.size < W.heap.size := World.block_lt_of_cell? W _ hc2
    have hbd : (Lib.bytesWorld W.drew 5 s).cell? ⟨w.heap.size, 2, none⟩ = some (.string s) := cell_below (bytesBelow W.drew _ s) hc2
    have hwr : IntKind.u64.wrap (s.size : Int) = (s.size : Int) := IntWalk.u64_in _ (by omega)
    have HP0 := Lib.hid hp0
    have HBW := Lib.hid hbW
    have HL2 := Lib.hid hl2
    clear hp0 hbW hl2 hok
    go_region_with (first
        | (go_at_call 63
           refine (num_call _ _ _ ?_ ?_ ?_).mono ?_
           · omega
           · omega
           · omega
           rintro e w1 ⟨r1, rfl, ho1, hb1⟩
           have hB1 : Below W.heap.size W w1 := by first | exact Below.next ((Below.refl _ _).drew) hb1 | exact Below.next (Below.next ((Below.refl _ _).drew) (bytesBelow _ _ _)) hb1
           have hc1 := cell_below hB1 hc2
           have hsz1 : w.heap.size < w1.heap.size := World.block_lt_of_cell? w1 _ hc1
           obtain ⟨A1, c1, rfl, hs1, hlc1, hcm1⟩ := ho1.forms
           have hs1' : Seg w1 A1 (high s.size 2).length (high s.size 2) := hs1
           clear hs1
           (try have hC := (bytesSeg W.drew 5 s).below hb1)
           clear ho1 hb1)
        | (go_at_call_of 33 b1
           refine (join_any _ _ _ _ _ _ [2] (high s.size 2) _ ?_ ?_ ?_).mono ?_
           · first | exact HP0.out.below hB1 | exact (HP0.out.below hB1).below (bytesBelow _ _ _)
           · first | exact hs1' | exact hs1'.below (bytesBelow _ _ _)
           · have := HL2.out; omega
           rintro e w3 ⟨r3, rfl, ho3, hb3⟩
           have hB3 : Below W.heap.size W w3 := by first | exact Below.next hB1 hb3 | exact Below.next (Below.next hB1 (bytesBelow _ _ _)) hb3
           have hc3 := cell_below hB3 hc2
           have hsz3 : w.heap.size < w3.heap.size := World.block_lt_of_cell? w3 _ hc3
           obtain ⟨A3, c3, rfl, hs3, hlc3, hcm3⟩ := ho3.forms
           (first | have hC3 := hC.below hb3 | have hC3 := (bytesSeg w1 5 s).below hb3 | skip)
           clear ho3 hb3)
        | (go_at_call 33
           refine (join_any _ _ _ _ _ _ ([2] ++ high s.size 2) s.data.toList _ ?_ ?_ ?_).mono ?_
           · first | exact hs3 | exact hs3.below (bytesBelow _ _ _)
           · first | exact hC3 | exact bytesSeg _ _ _
           · have := HL2.out; omega
           rintro e w5 ⟨r5, rfl, ho5, hb5⟩
           have hB5 : Below W.heap.size W w5 := by first | exact Below.next hB3 hb5 | exact Below.next (Below.next hB3 (bytesBelow _ _ _)) hb5
           have hB6 : W.heap.size ≤ w3.heap.size := hB3.size
           (try rw [Lib.bytesWorld_size] at ho5)))
    all_goals go_wp2
    all_goals go_ret
    all_goals
      refine ⟨_, rfl, ?_, HBW.out.trans (hB5.mono HBW.out.size)⟩
      have ho6 := ho5.mono (b := w.heap.size) (by omega)
      simpa [enc] using ho6

end Go.Proofs.Ytcmagjeplofagaa
