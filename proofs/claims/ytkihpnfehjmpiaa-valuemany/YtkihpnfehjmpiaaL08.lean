/-
  The walk of the law ValueMany.
-/
import Derived.Test.YtkihpnfehjmpiaaWV
import Derived.Test.YtkihpnfehjmpiaaOpenV
import Derived.Deep.DeepCutAuto
namespace Go.Proofs.Ytkihpnfehjmpiaa
open Go.RowKit

def encAll (l : List V) : List UInt8 := l.flatMap fun x => enc (ofW x)
theorem encAll_take (l : List V) (k : Nat) (h : k < l.length) : encAll (l.take (k + 1)) = encAll (l.take k) ++ enc (ofW l[k]) := by
  unfold encAll
  rw [List.take_succ_eq_append_getElem h, List.flatMap_append, List.flatMap_cons, List.flatMap_nil, List.append_nil]
theorem encAll_drop (l : List V) (k : Nat) (h : k < l.length) : encAll (l.drop k) = enc (ofW l[k]) ++ encAll (l.drop (k + 1)) := by
  rw [List.drop_eq_getElem_cons h]
  rfl
theorem encAll_len (l : List V) (h : ∀ x ∈ l, (ofW x).Ok) : (encAll l).length ≤ 1000 * l.length := by
  induction l with
  | nil => simp [encAll]
  | cons v l ih =>
    have h1 := enc_le (ofW v) (h v (by simp))
    have h2 := ih fun x hx => h x (by simp [hx])
    show (enc (ofW v) ++ encAll l).length ≤ _
    rw [List.length_append, List.length_cons]
    omega

set_option maxHeartbeats 2000000 in
theorem valueMany_core (A : Option Addr) (n c : Nat) (l : List V) (w : World) (ha : SegV w A n l) (hw : ∀ x ∈ l, x.Wide) (hn : n ≤ 20) :
    Calls Try.prog 8 #[.slice A n c] w fun e w' => e = .returned (.bool true) ∧ Below w.heap.size w w' := by
  have hoks : ∀ x ∈ l, (ofW x).Ok := fun x hx => ofW_ok x (hw x hx).2.2.1 (hw x hx).2.2.2.1
  have hn' : (n : Int) ≤ 20 := by omega
  go_enter Try.func8, Try.ntmps8
  go_wp2_with fail
  refine (text_any _).mono ?_
  rintro e w0 ⟨rfl, hb0⟩
  have h20 : decide ((20 : Int) < (n : Int)) = false := decide_eq_false (by omega)
  go_wp2_with fail
  go_loopw [3, 4] (fun p i w' => ∃ (k : Nat) (d : List UInt8), k ≤ n ∧ i = .int .i64 k ∧ d = encAll (l.take k) ∧ Own w' w.heap.size 5 p d ∧ Below w.heap.size w w') (fun _ i _ => n - (intOf i).toNat)
  case atStart => exact ⟨0, [], Nat.zero_le _, rfl, rfl, Own.nil _ _ _, hb0⟩
  case round =>
    obtain ⟨k, d, hk, rfl, hd, hod, hbw⟩ := hrel
    have hdl : d.length ≤ 1000 * n := by
      rw [hd]
      have := encAll_len (l.take k) fun x hx => hoks x (List.mem_of_mem_take hx)
      rw [List.length_take] at this
      exact Nat.le_trans this (Nat.mul_le_mul_left _ (by have := ha.1; omega))
    have HD := Lib.hid hd
    clear hd
    obtain ⟨A', c', rfl, hs', hlc', hcm'⟩ := hod.forms
    by_cases hlt : k < n
    · obtain ⟨g, o, rfl, h0, h1, h2⟩ := (ha.below hbw).at_ hlt
      have hm : l[k]'(by rw [ha.1]; exact hlt) ∈ l := List.getElem_mem _
      have hwx := hw _ hm
      have hvo := hoks _ hm
      have HTS := Lib.hid (encAll_take l k (by rw [ha.1]; exact hlt))
      clear hm
      generalize l[k]'(by rw [ha.1]; exact hlt) = x at *
      go_wp2_with fail
      refine (of_any x _ hwx.1 hwx.2.1 hwx.2.2.2.2).mono ?_
      rintro e w1 ⟨rfl, hb1⟩
      have hbw1 : Below w.heap.size w w1 := Below.next' hbw hb1 hbw.size
      have hs1 := hs'.below hb1
      clear hb1
      generalize ofW x = v at *
      go_wp2_with fail
      refine (encode_any v _ hvo).mono ?_
      rintro e w2 ⟨r2, rfl, ho2, hb2⟩
      have hbw2 : Below w.heap.size w w2 := Below.next' hbw1 hb2 hbw1.size
      replace hs1 := hs1.below hb2
      have hel := enc_le v hvo
      obtain ⟨A2, c2, rfl, hs2, hlc2, hcm2⟩ := ho2.forms
      clear hb2 ho2
      go_wp2_with fail
      refine (join_any A' A2 _ _ c' c2 d (enc v) _ hs1 hs2 (by omega)).mono ?_
      rintro e w3 ⟨r3, rfl, ho3, hb3⟩
      obtain ⟨d3, hd3⟩ : ∃ d3, d ++ enc v = d3 := ⟨_, rfl⟩
      rw [hd3] at ho3
      have HD3 := Lib.hid hd3
      clear hd3
      have hbw3 : Below w.heap.size w w3 := Below.next' hbw2 hb3 hbw2.size
      obtain ⟨A3, c3, rfl, hs3, hlc3, hcm3⟩ := ho3.forms
      have ho3' := ho3.mono (b := w.heap.size) hbw2.size
      clear hb3 ho3
      go_wp2
      go_roundw
      case rel => exact ⟨k + 1, d3, hlt, by go_num, by rw [← HD3.out, HTS.out, HD.out], ho3', hbw3⟩
      case measure => simp [intOf]; omega
    · have hk' : l.take k = l := List.take_of_length_le (by rw [ha.1]; omega)
      have HK := Lib.hid hk'
      clear hk'
      have HE : Hid (d = encAll (l.drop 0)) := by
        show d = _
        rw [HD.out, HK.out]
        rfl
      clear HD HK
      go_wp2_with fail
      go_loopw [3, 5] (fun p i w' => ∃ (k : Nat) (d : List UInt8), k ≤ n ∧ i = .int .i64 k ∧ d = encAll (l.drop k) ∧ Own w' w.heap.size 5 p d ∧ Below w.heap.size w w') (fun _ i _ => n - (intOf i).toNat)
      case atStart => exact ⟨0, d, Nat.zero_le _, rfl, HE.out, hod, hbw⟩
      case round =>
        obtain ⟨j, t, hj, rfl, ht, hot, hbt⟩ := hrel
        have htl : t.length ≤ 1000 * n := by
          rw [ht]
          have := encAll_len (l.drop j) fun x hx => hoks x (List.mem_of_mem_drop hx)
          rw [List.length_drop] at this
          exact Nat.le_trans this (Nat.mul_le_mul_left _ (by have := ha.1; omega))
        have HT := Lib.hid ht
        clear ht
        obtain ⟨At, ct, rfl, hst, hlct, hcmt⟩ := hot.forms
        by_cases hjt : j < n
        · obtain ⟨g, o, rfl, h0, h1, h2⟩ := ha.at_ hjt
          have hm : l[j]'(by rw [ha.1]; exact hjt) ∈ l := List.getElem_mem _
          have hwx := hw _ hm
          have hvo := hoks _ hm
          have HTS := Lib.hid (encAll_drop l j (by rw [ha.1]; exact hjt))
          clear hm
          generalize l[j]'(by rw [ha.1]; exact hjt) = x at *
          generalize hX : ofW x = v at *
          have HX := Lib.hid hX
          clear hX
          have hD : dec t = (v, (enc v).length, 0) := by rw [HT.out, HTS.out]; exact dec_enc v _ hvo
          have hdr : t.drop (enc v).length = encAll (l.drop (j + 1)) := by rw [HT.out, HTS.out]; exact List.drop_left
          have hlen : (encAll (l.drop (j + 1))).length < t.length := by
            have := enc_pos v
            rw [HT.out, HTS.out, List.length_append]
            omega
          generalize hT' : encAll (l.drop (j + 1)) = t' at *
          have HT' := Lib.hid hT'
          clear hT'
          have HDR := Lib.hid hdr
          clear hdr
          go_wp2_with fail
          refine (decode_ok At _ ct t v (enc v).length _ hst hlct hcmt (by omega) hD).mono ?_
          rintro e w1 ⟨r1, rfl, ho1, hb1⟩
          rw [HDR.out] at ho1
          have hbw1 : Below w.heap.size w w1 := Below.next' hbt hb1 hbt.size
          obtain ⟨A1, c1, rfl, hs1, hlc1, hcm1⟩ := ho1.forms
          have ho1' := ho1.mono (b := w.heap.size) hbt.size
          clear hb1 ho1 hD
          go_wp2_with fail
          have q0 : (w1.alloc (.cells #[.int .u8 v.k, .int .i64 v.n, .string v.s] 26)).cell? ⟨w1.heap.size, 0, none⟩ = some (.int .u8 v.k) := by simp
          have q1 : (w1.alloc (.cells #[.int .u8 v.k, .int .i64 v.n, .string v.s] 26)).cell? ⟨w1.heap.size, 1, none⟩ = some (.int .i64 v.n) := by simp
          have q2 : (w1.alloc (.cells #[.int .u8 v.k, .int .i64 v.n, .string v.s] 26)).cell? ⟨w1.heap.size, 2, none⟩ = some (.string v.s) := by simp
          have hbW : Below w.heap.size w (w1.alloc (.cells #[.int .u8 v.k, .int .i64 v.n, .string v.s] 26)) := hbw1.alloc hbw1.size _
          have p0 := cell_below hbW h0
          have p1 := cell_below hbW h1
          have p2 := cell_below hbW h2
          have hoW := ho1'.alloc (.cells #[.int .u8 v.k, .int .i64 v.n, .string v.s] 26)
          generalize w1.alloc (.cells #[.int .u8 v.k, .int .i64 v.n, .string v.s] 26) = W at *
          generalize w1.heap.size = bv at *
          have hj0 : (0 : Int) ≤ (j : Int) := by omega
          have hj1 : (j : Int) < (n : Int) := by omega
          have kneq := run_neqV v v
          have hvv : V.eqB v v = true := (V.eqB_iff _ _).2 rfl
          have hge : decide ((t.length : Int) ≤ (t'.length : Int)) = false := decide_eq_false (by omega)
          have hge' : decide (t.length ≤ t'.length) = false := decide_eq_false (by omega)
          go_region_held3 (fun W' => W'.cell? ⟨bv, 0, none⟩ = some (.int .u8 v.k) ∧ W'.cell? ⟨bv, 1, none⟩ = some (.int .i64 v.n) ∧ W'.cell? ⟨bv, 2, none⟩ = some (.string v.s) ∧
              W'.cell? ⟨g, o + j * 3, none⟩ = some (.int .u8 x.k) ∧ W'.cell? ⟨g, o + j * 3 + 1, none⟩ = some (.int .i64 x.n) ∧ W'.cell? ⟨g, o + j * 3 + 2, none⟩ = some (.string x.s) ∧ Below W.heap.size W W')
            (first | exact ⟨q0, q1, q2, p0, p1, p2, (Below.refl _ _).drew⟩ | exact ⟨cell_below hB q0, cell_below hB q1, cell_below hB q2, cell_below hB p0, cell_below hB p1, cell_below hB p2, hB⟩)
            (first
              | (go_at_call 16; refine (of_any x _ hwx.1 hwx.2.1 hwx.2.2.2.2).mono ?_; rintro e w2 ⟨rfl, hb2⟩; rw [HX.out]; have hB : Below W.heap.size W w2 := Below.next (‹_ ∧ _ ∧ _ ∧ _ ∧ _ ∧ _ ∧ Below _ _ _›).2.2.2.2.2.2 hb2))
          go_wp2
          go_roundw
          case rel => exact ⟨j + 1, t', hjt, by go_num, HT'.out.symm, hoW.below hB, Below.trans hbW (hB.mono hbW.size)⟩
          case measure => simp [intOf]; omega
        · go_wp2
          go_ret
          refine ⟨?_, hbt⟩
          have : t = [] := by
            rw [HT.out, List.drop_of_length_le (by rw [ha.1]; omega)]
            rfl
          subst this
          rfl

set_option maxHeartbeats 1000000 in
theorem valueMany_walk (A : Option Addr) (n c : Nat) (l : List V) (w : World) (ha : SegV w A n l) (_ : n ≤ c) (_ : c ≤ maxLen) (hw : ∀ x ∈ l, x.Wide) :
    Calls Try.prog 8 #[.slice A n c] w fun e w' => e = .returned (.bool true) ∧ Below w.heap.size w w' := by
  by_cases h20 : n ≤ 20
  · exact valueMany_core A n c l w ha hw h20
  · have h21 : (20 : Int) < (n : Int) := by omega
    go_enter Try.func8, Try.ntmps8
    go_wp2_with fail
    refine (text_any _).mono ?_
    rintro e w1 ⟨rfl, hb1⟩
    have h22 : decide ((20 : Int) < (n : Int)) = true := decide_eq_true h21
    go_wp2_with fail
    refine (text_any _).mono ?_
    rintro e w2 ⟨rfl, hb2⟩
    go_wp2
    go_ret
    exact ⟨rfl, Below.next' hb1 hb2 hb1.size⟩

end Go.Proofs.Ytkihpnfehjmpiaa
