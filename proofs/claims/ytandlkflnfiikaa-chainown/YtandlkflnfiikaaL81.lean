/-
  The walk of the law ChainOwn.
-/
import Derived.Test.YtandlkflnfiikaaCH8
namespace Go.Proofs.Ytandlkflnfiikaa
open Go.RowKit

theorem only_setw (w : World) (g j : Nat) (v : Value) : Only w (w.setCell ⟨g, j, none⟩ v) (fun k => k = g) := (Only.refl w (fun k => k = g)).setCell ⟨g, j, none⟩ v fun _ => rfl

set_option maxRecDepth 8000 in
set_option maxHeartbeats 8000000 in
theorem chainOwn_core (A : Option Addr) (n c : Nat) (l : List UInt8) (y : Int) (w : World) (ha : Seg w A n l) (hn : n ≤ 40) :
    Calls Try.prog 5 #[.slice A n c, .int .u8 y] w fun e w' => e = .returned (.bool true) ∧ Below w.heap.size w w' := by
  have d0 : decide ((40 : Int) < (n : Int)) = false := decide_eq_false (by omega)
  have HLN := Lib.hid ha.1
  have G1 := Lib.hid (show getV [⟨1, l, false⟩] 1 = (l, true) by rfl)
  have G5 := Lib.hid (show getV [⟨1, l, false⟩] 5 = (l, true) by rfl)
  go_enter Try.func5, Try.ntmps5
  go_wp2_with fail
  refine (gone_any _).mono ?_
  rintro e w1 ⟨rfl, hb1⟩
  have ha1 := ha.below hb1
  go_wp2_with fail
  refine (cnew_any _).mono ?_
  rintro e w2 ⟨g, rfl, h2, hb2, hgw⟩
  clear hgw
  have ha2 := ha1.below hb2
  have hbw2 := Below.next' hb1 hb2 hb1.size
  have hgl := h2.lt g (.inl (.inl rfl))
  go_wp2_with fail
  refine (join_any A none n 0 c 0 l [] _ ha2 (Seg.nil _ _) (by omega)).mono ?_
  rintro e w3 ⟨v3, rfl, ho3, hb3⟩
  rw [List.append_nil] at ho3
  obtain ⟨Aq, cq, rfl, hsq, _, _⟩ := ho3.forms
  have hwq := own_wr ho3
  rw [HLN.out] at hsq hwq ⊢
  have h3 := h2.below hb3
  have hbw3 := Below.next' hbw2 hb3 hbw2.size
  have hz2 := hb2.size
  have hz1 := hb1.size
  have hz3 := hb3.size
  clear ha1 ha2 hb1 hb2 h2 hb3 hbw2
  go_wp2_with fail
  refine (cput_ok h3 (by simp) 1 (by omega) Aq n cq l false hsq (by omega)).mono ?_
  rintro e w4 ⟨rfl, v4, S4, h4, ho4, hc4⟩
  rw [show [] ++ [strip ⟨1, l, false⟩] = [⟨1, l, false⟩] from rfl] at h4
  have hc4' : ∀ k, ChS g v4 S4 k → k = g ∨ w3.heap.size ≤ k := fun k hk => (hc4 k hk).imp ChS.nil id
  have hbw4 := h3.belows hbw3 ho4 (by omega)
  have hwq4 := hwq.only ho4 (fun k h1 h2 hk => by have := ChS.nil (.inl hk); omega)
  clear h3 hbw3 hsq ho3 ho4 hc4 hwq
  go_wp2_with fail
  go_loopw [7] (fun i w' => ∃ j : Nat, j ≤ n ∧ i = .int .i64 j ∧ Wr w' w2.heap.size w3.heap.size Aq n ∧ Ch w' w1.heap.size g v4 S4 [⟨1, l, false⟩] 1 ∧ Below w.heap.size w w') (fun i _ => n - (intOf i).toNat)
  case atStart => exact ⟨0, by omega, rfl, hwq4, h4, hbw4⟩
  case round =>
    clear hwq4 h4 hbw4
    obtain ⟨j, hj, rfl, hx, hd, hbw⟩ := hrel
    by_cases hlt : j < n
    · obtain ⟨gx, rfl, hx1, hx2, hxj⟩ := hx (by omega)
      obtain ⟨⟨b0, q0⟩, f0⟩ := hxj j hlt
      clear hxj
      go_wp2
      go_roundw
      case rel =>
        refine ⟨j + 1, hlt, by go_num, hx.set _, hd.only (only_setw _ _ _ _) (fun k hk e => ?_), hbw.setCell (show w.heap.size ≤ gx by omega) _⟩
        have := hc4' k hk
        have e : k = gx := e
        omega
      case measure => simp [intOf]; omega
    · obtain rfl : n = j := by omega
      clear hx hc4'
      rename World => wa
      go_wp2_with fail
      refine (cget_any hd (by simp) (by simp; have := HLN.out; omega) 1).mono ?_
      rw [G1.out]
      rintro e w5 ⟨v5, rfl, ho5, hb5⟩
      obtain ⟨Az, cz, rfl, _, _, _⟩ := ho5.forms
      have hwz := own_wr ho5
      rw [HLN.out] at hwz ⊢
      have hd5 := hd.below hb5
      have hlt5 := hd.lt
      have hbw5 := Below.next' hbw hb5 hbw.size
      have hzb := hbw.size
      clear hd hbw hb5 ho5
      go_wp2_with fail
      go_loopw [10] (fun i w' => ∃ j : Nat, j ≤ n ∧ i = .int .i64 j ∧ Wr w' wa.heap.size w5.heap.size Az n ∧ Ch w' w1.heap.size g v4 S4 [⟨1, l, false⟩] 1 ∧ Below w.heap.size w w') (fun i _ => n - (intOf i).toNat)
      case atStart => exact ⟨0, by omega, rfl, hwz, hd5, hbw5⟩
      case round =>
        clear hwz hd5 hbw5
        obtain ⟨j3, hj3, rfl, hy, hdk, hbw⟩ := hrel
        by_cases hlt3 : j3 < n
        · obtain ⟨gx, rfl, hx1, hx2, hxj⟩ := hy (by omega)
          obtain ⟨⟨b0, q0⟩, f0⟩ := hxj j3 hlt3
          clear hxj
          go_wp2
          go_roundw
          case rel =>
            refine ⟨j3 + 1, hlt3, by go_num, hy.set _, hdk.only (only_setw _ _ _ _) (fun k hk e => ?_), hbw.setCell (show w.heap.size ≤ gx by omega) _⟩
            have e : k = gx := e
            have := hlt5 k hk
            omega
          case measure => simp [intOf]; omega
        · obtain rfl : n = j3 := by omega
          clear hy hlt5
          rename World => wc
          go_wp2_with fail
          refine (cget_any hdk (by simp) (by simp; have := HLN.out; omega) 5).mono ?_
          rw [G5.out]
          rintro e w7 ⟨v7, rfl, ho7, hb7⟩
          obtain ⟨A7, c7, rfl, hs7, _, _⟩ := ho7.forms
          rw [HLN.out] at hs7 ⊢
          have hbw7 := Below.next' hbw hb7 hbw.size
          have hp7 := ha.below hbw7
          clear hdk hbw hb7 ho7
          go_wp2_with fail
          refine (bytes_any A7 A n n c7 c l l _ hs7 hp7 (by simp only [maxLen]; omega)).mono ?_
          rintro e w9 ⟨rfl, u, rfl⟩
          rw [show (l == l) = true by simp]
          have hbw9 := Below.drewP hbw7 u
          clear hbw7 hs7 hp7
          generalize w7.drewN u = w9 at *
          go_wp2
          go_ret
          exact ⟨rfl, hbw9⟩

set_option maxHeartbeats 4000000 in
theorem chainOwn_long (A : Option Addr) (n c : Nat) (y : Int) (w : World) (hn : 40 < n) :
    Calls Try.prog 5 #[.slice A n c, .int .u8 y] w fun e w' => e = .returned (.bool true) ∧ Below w.heap.size w w' := by
  have d0 : decide ((40 : Int) < (n : Int)) = true := decide_eq_true (by omega)
  go_enter Try.func5, Try.ntmps5
  go_wp2_with fail
  refine (gone_any _).mono ?_
  rintro e w1 ⟨rfl, hb1⟩
  go_wp2_with fail
  refine (gone_any _).mono ?_
  rintro e w2 ⟨rfl, hb2⟩
  go_wp2
  go_ret
  exact ⟨rfl, Below.next' hb1 hb2 hb1.size⟩

theorem chainOwn_walk (A : Option Addr) (n c : Nat) (l : List UInt8) (y : Int) (w : World) (ha : Seg w A n l) (_ : n ≤ c) (_ : c ≤ maxLen) (_ : (Lit.int .u8 y).wf = true) :
    Calls Try.prog 5 #[.slice A n c, .int .u8 y] w fun e w' => e = .returned (.bool true) ∧ Below w.heap.size w w' := by
  by_cases h : n ≤ 40
  · exact chainOwn_core A n c l y w ha h
  · exact chainOwn_long A n c y w (by omega)

end Go.Proofs.Ytandlkflnfiikaa
