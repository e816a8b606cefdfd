/-
  Texts of one claim, joined.
-/
import Derived.Test.YtpbjianhkjjgkaaDoorZ18
import Derived.Test.YtpbjianhkjjgkaaDoorZ07
import Derived.Test.YtpbjianhkjjgkaaDoorZ08
namespace Go.Proofs.YtpbjianhkjjgkaaDoor
open Go.RowKit

set_option maxHeartbeats 1000000 in
theorem pAppendHigh_any (v : Value) (base : Nat) (l : List UInt8) (n size : Nat) (w : World) (ho : Own w base 5 v l) (hbase : base ≤ w.heap.size) (hsz : size ≤ 2) (hn : n ≤ 1000000) (hl : l.length ≤ 10000000) :
    Calls Tryd.prog 101 #[v, .int .i64 n, .int .i64 size] w fun e w' => ∃ v', e = .returned v' ∧ Own w' base 5 v' (l ++ high n size) ∧ Grew w w' v v' := by
  obtain ⟨A, c, rfl, hs, hlc, hcm⟩ := ho.forms
  go_enter Tryd.func101, Tryd.ntmps101
  go_wp2
  go_loopw [0, 7] (fun p i w' => ∃ (j : Nat) (d : List UInt8), j ≤ size ∧ i = .int .i64 ((j : Int) - 1) ∧ d ++ high n j = l ++ high n size ∧ d.length ≤ l.length + size - j ∧ Own w' base 5 p d ∧ Grew w w' (.slice A l.length c) p) (fun _ i _ => (intOf i + 1).toNat)
  case atStart => exact ⟨size, l, Nat.le_refl _, by go_num, rfl, by omega, ho, Grew.refl _ _⟩
  case round =>
    obtain ⟨j, d, hj, rfl, he, hd, hod, hgr⟩ := hrel
    have HE := Lib.hid he
    clear he
    obtain ⟨A', c', rfl, hs', hlc', hcm'⟩ := hod.forms
    rcases j with _ | j
    · go_wp2
      go_ret
      exact ⟨_, rfl, by have := HE.out; simp only [high, List.append_nil] at this; rw [← this]; exact hod, hgr⟩
    · have hdiv : n / 2 ^ (8 * j) ≤ n := Nat.div_le_self _ _
      have hdi : ((n : Int) / 2 ^ (8 * j)) = ((n / 2 ^ (8 * j) : Nat) : Int) := by rw [Int.natCast_ediv, Int.natCast_pow]; rfl
      have hwr : wrap64 ((n : Int) / 2 ^ (8 * j)) = ((n : Int) / 2 ^ (8 * j)) := IntWalk.wrap64_in _ (by
        rw [hdi]
        generalize n / 2 ^ (8 * j) = q at hdiv
        omega)
      clear hdi hdiv
      go_wp2_with (at_builtin
                   refine wpList_append_seg _ rfl (.tmp 14) (.tmp 20) _ _ bt rfl base (.slice A' d.length c') d rfl (hod.alloc _) _ 1 1 [UInt8.ofNat (n / 2 ^ (8 * j))] rfl (Seg.one _ _ _ _ (high_byte n j)) (by omega) (by have := hgr.1.size; simp; omega) ?_
                   intro v1 w1 hown1 hg1 hat1)
      go_roundw
      case rel =>
        refine ⟨j, d ++ [UInt8.ofNat (n / 2 ^ (8 * j))], by omega, by go_num, by rw [← HE.out]; simp [high], by simp; omega, hown1, hgr.trans ?_⟩
        exact (((Grew.refl _ _).alloc _).trans (Grew.of hg1 hat1))
      case measure => simp [intOf]

theorem pAppendHigh_call (v : Value) (base : Nat) (l : List UInt8) (x z : Int) (w : World) (ho : Own w base 5 v l) (hbase : base ≤ w.heap.size) (hx : 0 ≤ x) (hx1 : x ≤ 1000000) (h0 : 0 ≤ z) (hz : z ≤ 2) (hl : l.length ≤ 10000000) :
    Calls Tryd.prog 101 #[v, .int .i64 x, .int .i64 z] w fun e w' => ∃ v', e = .returned v' ∧ Own w' base 5 v' (l ++ high x.toNat z.toNat) ∧ Grew w w' v v' := by
  obtain ⟨n, rfl⟩ := Int.eq_ofNat_of_zero_le hx
  obtain ⟨m, rfl⟩ := Int.eq_ofNat_of_zero_le h0
  exact pAppendHigh_any v base l n m w ho hbase (by omega) (by omega) hl

set_option maxHeartbeats 1000000 in
theorem pTextS_any (v : Value) (base : Nat) (l : List UInt8) (k : ByteArray) (w : World) (ho : Own w base 5 v l) (hbase : base ≤ w.heap.size) (hk : k.size ≤ 100000) (hl : l.length ≤ 5000000) :
    Calls Tryd.prog 102 #[v, .string k] w fun e w' => ∃ v', e = .returned v' ∧ Own w' base 5 v' (l ++ ptext k.data.toList) ∧ Below base w w' := by
  obtain ⟨A, c, rfl, hs, hlc, hcm⟩ := ho.forms
  have hkl : k.data.toList.length = k.size := by simp
  go_enter Tryd.func102, Tryd.ntmps102
  go_wp2_with fail
  refine (pAppendHigh_call _ base l _ _ _ ho hbase (by omega) (by omega) (by omega) (by omega) (by omega)).mono ?_
  rintro _ w1 ⟨v1, rfl, ho1, hg1⟩
  have hb1 : Below base w w1 := hg1.below (Below.refl _ _) ho (Nat.le_refl _) hbase
  have hz1 := hb1.size
  have hlen : (l ++ high ((k.size : Nat) : Int).toNat (2 : Int).toNat).length ≤ 6000000 := by rw [List.length_append, high_length]; omega
  have HEQ := Lib.hid (show l ++ high ((k.size : Nat) : Int).toNat (2 : Int).toNat ++ k.data.toList = l ++ ptext k.data.toList by unfold ptext; rw [hkl, List.append_assoc]; rfl)
  generalize l ++ high ((k.size : Nat) : Int).toNat (2 : Int).toNat = l1 at *
  obtain ⟨A1, c1, rfl, _, _, _⟩ := ho1.forms
  go_wp2_with (at_builtin
               refine wpList_append_str _ rfl (.tmp 8) (.tmp 9) _ _ _ bt Tryd.underlying9 rfl base _ l1 rfl ho1 k rfl (by omega) (by omega) ?_
               intro v2 w2 ho2 hg2)
  go_ret
  rw [HEQ.out] at ho2
  exact ⟨_, rfl, ho2, below_grown hb1 ho1 hg2 (Nat.le_refl _) (by omega)⟩

set_option maxHeartbeats 1000000 in
theorem pTextB_any (v : Value) (base : Nat) (l : List UInt8) (B : Option Addr) (m d : Nat) (r : List UInt8) (w : World) (ho : Own w base 5 v l) (hbase : base ≤ w.heap.size) (hr : Seg w B m r) (hB : 0 < m → ∀ a, B = some a → a.block < base) (hk : m ≤ 100000) (hl : l.length ≤ 5000000) :
    Calls Tryd.prog 103 #[v, .slice B m d] w fun e w' => ∃ v', e = .returned v' ∧ Own w' base 5 v' (l ++ ptext r) ∧ Below base w w' := by
  obtain ⟨A, c, rfl, hs, hlc, hcm⟩ := ho.forms
  obtain rfl := hr.len
  go_enter Tryd.func103, Tryd.ntmps103
  go_wp2_with fail
  refine (pAppendHigh_call _ base l _ _ _ ho hbase (by omega) (by omega) (by omega) (by omega) (by omega)).mono ?_
  rintro _ w1 ⟨v1, rfl, ho1, hg1⟩
  have hb1 : Below base w w1 := hg1.below (Below.refl _ _) ho (Nat.le_refl _) hbase
  have hz1 := hb1.size
  have hr1 : Seg w1 B r.length r := hr.only (Only.of_grown (S := fun k => base ≤ k) hg1.1 (fun k hk => (ho.lt k hk).1)) (fun hn a ha => by have := hB hn a ha; omega)
  have hlen : (l ++ high ((r.length : Nat) : Int).toNat (2 : Int).toNat).length ≤ 6000000 := by rw [List.length_append, high_length]; omega
  have HEQ := Lib.hid (show l ++ high ((r.length : Nat) : Int).toNat (2 : Int).toNat ++ r = l ++ ptext r by unfold ptext; rw [List.append_assoc]; rfl)
  generalize l ++ high ((r.length : Nat) : Int).toNat (2 : Int).toNat = l1 at *
  obtain ⟨A1, c1, rfl, _, _, _⟩ := ho1.forms
  go_wp2_with (at_builtin
               refine wpList_append_seg _ rfl (.tmp 8) (.tmp 9) _ _ bt rfl base _ l1 rfl ho1 B r.length d r rfl hr1 (by omega) (by omega) ?_
               intro v2 w2 ho2 hg2 hat2)
  go_ret
  rw [HEQ.out] at ho2
  exact ⟨_, rfl, ho2, below_grown hb1 ho1 hg2 (Nat.le_refl _) (by omega)⟩

end Go.Proofs.YtpbjianhkjjgkaaDoor
/-
  The program's Encode of proofs.
-/
namespace Go.Proofs.YtpbjianhkjjgkaaDoor
open Go.RowKit

/-- A proof that is handed in: its rows may lie anywhere. -/
def PfAt (w : World) (v : Value) (p : Pf) : Prop :=
  ∃ A c B d, v = .agg #[.slice A p.side.length c, .int .u8 (p.k : Int), .string p.key, .slice B p.row.length d] ∧ SegS w A p.side.length p.side ∧ Seg w B p.row.length p.row ∧ p.side.length ≤ c ∧ c ≤ maxLen ∧ p.row.length ≤ d ∧ d ≤ maxLen
theorem PfAt.below {w w' : World} {v : Value} {p : Pf} (h : PfAt w v p) (hb : Below w.heap.size w w') : PfAt w' v p := by
  obtain ⟨A, c, B, d, e, h1, h2, h3⟩ := h
  exact ⟨A, c, B, d, e, h1.below hb, h2.below hb, h3⟩
theorem PfOwn.at_ {w : World} {base : Nat} {v : Value} {p : Pf} (h : PfOwn w base v p) : PfAt w v p := by
  obtain ⟨v1, v2, rfl, h1, h2⟩ := h
  obtain ⟨A, c, rfl, a1, a2, a3⟩ := h1.forms
  obtain ⟨B, d, rfl, b1, b2, b3⟩ := h2.forms
  exact ⟨A, c, B, d, rfl, a1, b1, a2, a3, b2, b3⟩

theorem takeS_eq {α : Type} {l r : List α} {n : Nat} (hl : l.length = n) (hr : r.length = n) (h : l.take n = r.take n) : l = r := by
  rw [List.take_of_length_le (by omega), List.take_of_length_le (by omega)] at h
  exact h
theorem boolOf {b : Bool} {p : Prop} (h : b = true ↔ p) (hp : ¬ p) : b = false := by
  rcases b with _ | _
  · rfl
  · exact absurd (h.1 rfl) hp

set_option maxHeartbeats 1000000 in
theorem texts_any (A B : Option Addr) (n m c d : Nat) (l r : List ByteArray) (b : Bool) (w : World) (ha : SegS w A n l) (hb : SegS w B m r) (hn : n ≤ 1000000) (hlr : b = true ↔ l = r) :
    Calls Tryd.prog 26 #[.slice A n c, .slice B m d] w fun e w' => e = .returned (.bool b) ∧ ∃ k, w' = w.drewN k := by
  have HLR := Lib.hid hlr
  clear hlr
  by_cases hnm : n = m
  · subst hnm
    go_enter Tryd.func26, Tryd.ntmps26
    go_wp2
    go_loopw [5] (fun i w' => ∃ k : Nat, k ≤ n ∧ i = .int .i64 k ∧ l.take k = r.take k ∧ ∃ q, w' = w.drewN q) (fun i _ => n - (intOf i).toNat)
    case atStart => exact ⟨0, by omega, rfl, by simp, 0, rfl⟩
    case round =>
      obtain ⟨k, hk, rfl, he, q, rfl⟩ := hrel
      by_cases hlt : k < n
      · obtain ⟨g, o, rfl, hc⟩ := SegS.cellAt ha hlt
        obtain ⟨g', o', rfl, hc'⟩ := SegS.cellAt hb hlt
        have hl1 : k < l.length := by rw [ha.1]; exact hlt
        have hl2 : k < r.length := by rw [hb.1]; exact hlt
        have HE := Lib.hid he
        clear he
        have hx1 := List.take_succ_eq_append_getElem hl1
        have hx2 := List.take_succ_eq_append_getElem hl2
        have hne : l[k] ≠ r[k] → l ≠ r := by rintro h rfl; exact h rfl
        have HX1 := Lib.hid hx1
        have HX2 := Lib.hid hx2
        have HNE := Lib.hid hne
        clear hx1 hx2 hne
        generalize l[k]'(by rw [ha.1]; exact hlt) = x at *
        generalize r[k]'(by rw [hb.1]; exact hlt) = y at *
        by_cases heq : x = y
        · have ht : (x.toList == y.toList) = true := by rw [heq]; simp
          have HQ := Lib.hid heq
          clear heq
          go_wp2
          go_quiet (fail)
          go_wp2
          go_roundw
          case rel =>
            exact ⟨k + 1, hlt, by go_num, by rw [HX1.out, HX2.out, HE.out, HQ.out], _, rfl⟩
          case measure => simp [intOf]; omega
        · have ht : (x.toList == y.toList) = false := by
            rw [beq_eq_false_iff_ne, ne_eq, toList_inj]
            exact heq
          go_wp2
          go_quiet (fail)
          go_wp2
          go_ret
          exact ⟨by rw [boolOf HLR.out (HNE.out heq)]; rfl, q + nq, World.drewN_drewN _ _ _⟩
      · go_wp2
        go_ret
        have hkn : k = n := by omega
        subst hkn
        exact ⟨by rw [HLR.out.2 (takeS_eq ha.1 hb.1 he)]; rfl, _, rfl⟩
  · have h1 : ((n : Int) != (m : Int)) = true := by simp; omega
    go_enter Tryd.func26, Tryd.ntmps26
    go_wp2
    go_ret
    have : ¬ l = r := by rintro rfl; exact hnm (ha.1.symm.trans hb.1)
    exact ⟨by rw [boolOf HLR.out this]; rfl, 0, rfl⟩

set_option maxHeartbeats 1000000 in
theorem equalS_any (A B : Option Addr) (n m c d : Nat) (l r : List ByteArray) (b : Bool) (w : World) (ha : SegS w A n l) (hb : SegS w B m r) (hn : n ≤ 1000000) (hlr : b = true ↔ l = r) :
    Calls Tryd.prog 83 #[.slice A n c, .slice B m d] w fun e w' => e = .returned (.bool b) ∧ ∃ k, w' = w.drewN k := by
  have HLR := Lib.hid hlr
  clear hlr
  by_cases hnm : n = m
  · subst hnm
    go_enter Tryd.func83, Tryd.ntmps83
    go_wp2
    go_loopw [13] (fun i w' => ∃ k : Nat, k ≤ n ∧ i = .int .i64 k ∧ l.take k = r.take k ∧ ∃ q, w' = w.drewN q) (fun i _ => n - (intOf i).toNat)
    case atStart => exact ⟨0, by omega, rfl, by simp, 0, rfl⟩
    case round =>
      obtain ⟨k, hk, rfl, he, q, rfl⟩ := hrel
      by_cases hlt : k < n
      · obtain ⟨g, o, rfl, hc⟩ := SegS.cellAt ha hlt
        obtain ⟨g', o', rfl, hc'⟩ := SegS.cellAt hb hlt
        have hl1 : k < l.length := by rw [ha.1]; exact hlt
        have hl2 : k < r.length := by rw [hb.1]; exact hlt
        have HE := Lib.hid he
        clear he
        have hx1 := List.take_succ_eq_append_getElem hl1
        have hx2 := List.take_succ_eq_append_getElem hl2
        have hne : l[k] ≠ r[k] → l ≠ r := by rintro h rfl; exact h rfl
        have HX1 := Lib.hid hx1
        have HX2 := Lib.hid hx2
        have HNE := Lib.hid hne
        clear hx1 hx2 hne
        generalize l[k]'(by rw [ha.1]; exact hlt) = x at *
        generalize r[k]'(by rw [hb.1]; exact hlt) = y at *
        by_cases heq : x = y
        · have ht : (x.toList == y.toList) = true := by rw [heq]; simp
          have HQ := Lib.hid heq
          clear heq
          go_wp2
          go_quiet (fail)
          go_wp2
          go_roundw
          case rel =>
            exact ⟨k + 1, hlt, by go_num, by rw [HX1.out, HX2.out, HE.out, HQ.out], _, rfl⟩
          case measure => simp [intOf]; omega
        · have ht : (x.toList == y.toList) = false := by
            rw [beq_eq_false_iff_ne, ne_eq, toList_inj]
            exact heq
          go_wp2
          go_quiet (fail)
          go_wp2
          go_ret
          exact ⟨by rw [boolOf HLR.out (HNE.out heq)]; rfl, q + nq, World.drewN_drewN _ _ _⟩
      · go_wp2
        go_ret
        have hkn : k = n := by omega
        subst hkn
        exact ⟨by rw [HLR.out.2 (takeS_eq ha.1 hb.1 he)]; rfl, _, rfl⟩
  · have h1 : ((n : Int) != (m : Int)) = true := by simp; omega
    go_enter Tryd.func83, Tryd.ntmps83
    go_wp2
    go_ret
    have : ¬ l = r := by rintro rfl; exact hnm (ha.1.symm.trans hb.1)
    exact ⟨by rw [boolOf HLR.out this]; rfl, 0, rfl⟩

set_option maxHeartbeats 1000000 in
theorem bEqual_any (A B : Option Addr) (n m c d : Nat) (l r : List UInt8) (w : World) (ha : Seg w A n l) (hb : Seg w B m r) :
    Calls Tryd.prog 84 #[.slice A n c, .slice B m d] w fun e w' => e = .returned (.bool (l == r)) ∧ w' = w := by
  have k1 := run_string_seg (P := Tryd.prog) w 29 9 5 bt Tryd.underlying9 A n c l ha
  have k2 := run_string_seg (P := Tryd.prog) w 29 9 5 bt Tryd.underlying9 B m d r hb
  go_enter Tryd.func84, Tryd.ntmps84
  go_wp2
  go_ret
  exact ⟨rfl, rfl⟩


theorem bel2 (w : World) (o u : Obj) (q : Nat) : Below w.heap.size w (((w.alloc o).alloc u).drewN q) := by
  have h := ((Below.refl w.heap.size w).alloc (Nat.le_refl _) o).alloc (by simp) u
  exact ⟨h.os, h.tape, h.output, h.size, h.block⟩

set_option maxHeartbeats 4000000 in
theorem psame_any (v u : Value) (p q : Pf) (b : Bool) (w : World) (hv : PfAt w v p) (hu : PfAt w u q) (hn : p.side.length ≤ 1000000) (hm : p.row.length ≤ 1000000) (hlr : b = true ↔ p = q) :
    Calls Tryd.prog 47 #[v, u] w fun e w' => e = .returned (.bool b) ∧ Below w.heap.size w w' := by
  obtain ⟨A, c, B, d, rfl, a1, a2, a3, a4, a5, a6⟩ := hv
  obtain ⟨A', c', B', d', rfl, b1, b2, b3, b4, b5, b6⟩ := hu
  obtain ⟨ds, k, key, row⟩ := p
  obtain ⟨es, j, cey, sow⟩ := q
  dsimp only at *
  obtain ⟨n, hn1⟩ : ∃ n, ds.length = n := ⟨_, rfl⟩
  obtain ⟨n', hn2⟩ : ∃ n', es.length = n' := ⟨_, rfl⟩
  obtain ⟨m, hm1⟩ : ∃ m, row.length = m := ⟨_, rfl⟩
  obtain ⟨m', hm2⟩ : ∃ m', sow.length = m' := ⟨_, rfl⟩
  rw [hn1] at a1 a3 hn
  rw [hn2] at b1 b3
  rw [hm1] at a2 a5 hm
  rw [hm2] at b2 b5
  rw [hn1, hn2, hm1, hm2]
  have HLR := Lib.hid hlr
  clear hlr hn1 hn2 hm1 hm2
  by_cases hx : ds = es
  · by_cases hk : k = j
    · have hk' : ((k : Int) == (j : Int)) = true := by simp [hk]
      by_cases hc : key = cey
      · have hc' : (key.toList == cey.toList) = true := by simp [hc]
        by_cases hr : row = sow
        · have hr' : (row == sow) = true := by simp [hr]
          go_enter Tryd.func47, Tryd.ntmps47
          go_wp2_with (first
      | (go_at_call 83; refine (equalS_any A A' n n' c c' ds es true _ ((a1.alloc _).alloc _) ((b1.alloc _).alloc _) hn (by simp [hx])).mono ?_; rintro _ w1 ⟨rfl, q1, rfl⟩)
      | (go_at_call 84; refine (bEqual_any B B' m m' d d' row sow _ (((a2.alloc _).alloc _).drewN q1) (((b2.alloc _).alloc _).drewN q1)).mono ?_; rintro _ w2 ⟨rfl, rfl⟩))
          go_ret
          refine ⟨by rw [HLR.out.2 (by rw [hx, hk, hc, hr])]; rfl, ?_⟩
          exact bel2 _ _ _ _
        · have hr' : (row == sow) = false := by simp [hr]
          go_enter Tryd.func47, Tryd.ntmps47
          go_wp2_with (first
      | (go_at_call 83; refine (equalS_any A A' n n' c c' ds es true _ ((a1.alloc _).alloc _) ((b1.alloc _).alloc _) hn (by simp [hx])).mono ?_; rintro _ w1 ⟨rfl, q1, rfl⟩)
      | (go_at_call 84; refine (bEqual_any B B' m m' d d' row sow _ (((a2.alloc _).alloc _).drewN q1) (((b2.alloc _).alloc _).drewN q1)).mono ?_; rintro _ w2 ⟨rfl, rfl⟩))
          go_ret
          refine ⟨by rw [boolOf HLR.out (fun h => hr (by injection h))]; rfl, ?_⟩
          exact bel2 _ _ _ _
      · have hc' : (key.toList == cey.toList) = false := by
          rw [beq_eq_false_iff_ne, ne_eq, toList_inj]
          exact hc
        go_enter Tryd.func47, Tryd.ntmps47
        go_wp2_with (first
      | (go_at_call 83; refine (equalS_any A A' n n' c c' ds es true _ ((a1.alloc _).alloc _) ((b1.alloc _).alloc _) hn (by simp [hx])).mono ?_; rintro _ w1 ⟨rfl, q1, rfl⟩)
      | (go_at_call 84; refine (bEqual_any B B' m m' d d' row sow _ (((a2.alloc _).alloc _).drewN q1) (((b2.alloc _).alloc _).drewN q1)).mono ?_; rintro _ w2 ⟨rfl, rfl⟩))
        go_ret
        refine ⟨by rw [boolOf HLR.out (fun h => hc (by injection h))]; rfl, ?_⟩
        exact bel2 _ _ _ _
    · have hk' : ((k : Int) == (j : Int)) = false := by simp; omega
      go_enter Tryd.func47, Tryd.ntmps47
      go_wp2_with (first
      | (go_at_call 83; refine (equalS_any A A' n n' c c' ds es true _ ((a1.alloc _).alloc _) ((b1.alloc _).alloc _) hn (by simp [hx])).mono ?_; rintro _ w1 ⟨rfl, q1, rfl⟩)
      | (go_at_call 84; refine (bEqual_any B B' m m' d d' row sow _ (((a2.alloc _).alloc _).drewN q1) (((b2.alloc _).alloc _).drewN q1)).mono ?_; rintro _ w2 ⟨rfl, rfl⟩))
      go_ret
      refine ⟨by rw [boolOf HLR.out (fun h => hk (by injection h))]; rfl, ?_⟩
      exact bel2 _ _ _ _
  · go_enter Tryd.func47, Tryd.ntmps47
    go_wp2_with (first
      | (go_at_call 83; refine (equalS_any A A' n n' c c' ds es false _ ((a1.alloc _).alloc _) ((b1.alloc _).alloc _) hn (by simp [hx])).mono ?_; rintro _ w1 ⟨rfl, q1, rfl⟩)
      | (go_at_call 84; refine (bEqual_any B B' m m' d d' row sow _ (((a2.alloc _).alloc _).drewN q1) (((b2.alloc _).alloc _).drewN q1)).mono ?_; rintro _ w2 ⟨rfl, rfl⟩))
    go_ret
    refine ⟨by rw [boolOf HLR.out (fun h => hx (by injection h))]; rfl, ?_⟩
    exact bel2 _ _ _ _

set_option maxHeartbeats 4000000 in
theorem rpsame_any (v u : Value) (p q : Pf) (b : Bool) (w : World) (hv : PfAt w v p) (hu : PfAt w u q) (hn : p.side.length ≤ 1000000) (hm : p.row.length ≤ 1000000) (hlr : b = true ↔ p = q) :
    Calls Tryd.prog 80 #[v, u] w fun e w' => e = .returned (.bool b) ∧ Below w.heap.size w w' := by
  obtain ⟨A, c, B, d, rfl, a1, a2, a3, a4, a5, a6⟩ := hv
  obtain ⟨A', c', B', d', rfl, b1, b2, b3, b4, b5, b6⟩ := hu
  obtain ⟨ds, k, key, row⟩ := p
  obtain ⟨es, j, cey, sow⟩ := q
  dsimp only at *
  obtain ⟨n, hn1⟩ : ∃ n, ds.length = n := ⟨_, rfl⟩
  obtain ⟨n', hn2⟩ : ∃ n', es.length = n' := ⟨_, rfl⟩
  obtain ⟨m, hm1⟩ : ∃ m, row.length = m := ⟨_, rfl⟩
  obtain ⟨m', hm2⟩ : ∃ m', sow.length = m' := ⟨_, rfl⟩
  rw [hn1] at a1 a3 hn
  rw [hn2] at b1 b3
  rw [hm1] at a2 a5 hm
  rw [hm2] at b2 b5
  rw [hn1, hn2, hm1, hm2]
  have HLR := Lib.hid hlr
  clear hlr hn1 hn2 hm1 hm2
  by_cases hx : ds = es
  · by_cases hk : k = j
    · have hk' : ((k : Int) == (j : Int)) = true := by simp [hk]
      by_cases hc : key = cey
      · have hc' : (key.toList == cey.toList) = true := by simp [hc]
        by_cases hr : row = sow
        · have hr' : (row == sow) = true := by simp [hr]
          go_enter Tryd.func80, Tryd.ntmps80
          go_wp2_with (first
      | (go_at_call 26; refine (texts_any A A' n n' c c' ds es true _ ((a1.alloc _).alloc _) ((b1.alloc _).alloc _) hn (by simp [hx])).mono ?_; rintro _ w1 ⟨rfl, q1, rfl⟩)
      | (go_at_call 22; refine (bytes_any B B' m m' d d' row sow _ (((a2.alloc _).alloc _).drewN q1) (((b2.alloc _).alloc _).drewN q1) (by simp only [maxLen]; omega)).mono ?_; rintro _ w2 ⟨rfl, q2, rfl⟩))
          go_ret
          refine ⟨by rw [HLR.out.2 (by rw [hx, hk, hc, hr])]; rfl, ?_⟩
          exact bel2 _ _ _ _
        · have hr' : (row == sow) = false := by simp [hr]
          go_enter Tryd.func80, Tryd.ntmps80
          go_wp2_with (first
      | (go_at_call 26; refine (texts_any A A' n n' c c' ds es true _ ((a1.alloc _).alloc _) ((b1.alloc _).alloc _) hn (by simp [hx])).mono ?_; rintro _ w1 ⟨rfl, q1, rfl⟩)
      | (go_at_call 22; refine (bytes_any B B' m m' d d' row sow _ (((a2.alloc _).alloc _).drewN q1) (((b2.alloc _).alloc _).drewN q1) (by simp only [maxLen]; omega)).mono ?_; rintro _ w2 ⟨rfl, q2, rfl⟩))
          go_ret
          refine ⟨by rw [boolOf HLR.out (fun h => hr (by injection h))]; rfl, ?_⟩
          exact bel2 _ _ _ _
      · have hc' : (key.toList == cey.toList) = false := by
          rw [beq_eq_false_iff_ne, ne_eq, toList_inj]
          exact hc
        go_enter Tryd.func80, Tryd.ntmps80
        go_wp2_with (first
      | (go_at_call 26; refine (texts_any A A' n n' c c' ds es true _ ((a1.alloc _).alloc _) ((b1.alloc _).alloc _) hn (by simp [hx])).mono ?_; rintro _ w1 ⟨rfl, q1, rfl⟩)
      | (go_at_call 22; refine (bytes_any B B' m m' d d' row sow _ (((a2.alloc _).alloc _).drewN q1) (((b2.alloc _).alloc _).drewN q1) (by simp only [maxLen]; omega)).mono ?_; rintro _ w2 ⟨rfl, q2, rfl⟩))
        go_ret
        refine ⟨by rw [boolOf HLR.out (fun h => hc (by injection h))]; rfl, ?_⟩
        exact bel2 _ _ _ _
    · have hk' : ((k : Int) == (j : Int)) = false := by simp; omega
      go_enter Tryd.func80, Tryd.ntmps80
      go_wp2_with (first
      | (go_at_call 26; refine (texts_any A A' n n' c c' ds es true _ ((a1.alloc _).alloc _) ((b1.alloc _).alloc _) hn (by simp [hx])).mono ?_; rintro _ w1 ⟨rfl, q1, rfl⟩)
      | (go_at_call 22; refine (bytes_any B B' m m' d d' row sow _ (((a2.alloc _).alloc _).drewN q1) (((b2.alloc _).alloc _).drewN q1) (by simp only [maxLen]; omega)).mono ?_; rintro _ w2 ⟨rfl, q2, rfl⟩))
      go_ret
      refine ⟨by rw [boolOf HLR.out (fun h => hk (by injection h))]; rfl, ?_⟩
      exact bel2 _ _ _ _
  · go_enter Tryd.func80, Tryd.ntmps80
    go_wp2_with (first
      | (go_at_call 26; refine (texts_any A A' n n' c c' ds es false _ ((a1.alloc _).alloc _) ((b1.alloc _).alloc _) hn (by simp [hx])).mono ?_; rintro _ w1 ⟨rfl, q1, rfl⟩)
      | (go_at_call 22; refine (bytes_any B B' m m' d d' row sow _ (((a2.alloc _).alloc _).drewN q1) (((b2.alloc _).alloc _).drewN q1) (by simp only [maxLen]; omega)).mono ?_; rintro _ w2 ⟨rfl, q2, rfl⟩))
    go_ret
    refine ⟨by rw [boolOf HLR.out (fun h => hx (by injection h))]; rfl, ?_⟩
    exact bel2 _ _ _ _

end Go.Proofs.YtpbjianhkjjgkaaDoor

namespace Go.Proofs.YtpbjianhkjjgkaaDoor
open Go.RowKit

theorem cat_succ (ds : List ByteArray) (k : Nat) (h : k < ds.length) : cat (ds.take (k + 1)) = cat (ds.take k) ++ ds[k].data.toList := by
  unfold cat
  rw [List.take_succ_eq_append_getElem h, List.flatMap_append, List.flatMap_cons, List.flatMap_nil, List.append_nil]
theorem cat_len (ds : List ByteArray) (h : ∀ s ∈ ds, s.size ≤ 10000) : (cat ds).length ≤ 10000 * ds.length := by
  induction ds with
  | nil => exact Nat.le_refl _
  | cons s ds ih =>
    have h1 := ih fun t ht => h t (List.mem_cons_of_mem _ ht)
    have h2 := h s (List.mem_cons_self ..)
    show (s.data.toList ++ cat ds).length ≤ _
    rw [List.length_append, List.length_cons]
    have : s.data.toList.length = s.size := by simp
    omega
/-- The last part of a proof's bytes. -/
def pend2 (p : Pf) : List UInt8 := if p.k = 2 then ptext p.key.data.toList ++ ptext p.row else if p.k = 1 then ptext p.row else []

set_option maxRecDepth 4000 in
set_option maxHeartbeats 8000000 in
theorem pencode_any (v : Value) (p : Pf) (w : World) (hv : PfAt w v p) (h1 : p.side.length ≤ 300) (h2 : ∀ s ∈ p.side, s.size ≤ 10000) (h3 : p.key.size ≤ 10000) (h4 : p.row.length ≤ 10000) (h5 : p.k < 256) :
    Calls Tryd.prog 79 #[v] w fun e w' => ∃ r, e = .returned r ∧ Own w' w.heap.size 5 r (penc p) ∧ Below w.heap.size w w' := by
  obtain ⟨A, c, B, d, rfl, a1, a2, a3, a4, a5, a6⟩ := hv
  have HEN := Lib.hid (show penc p = high p.side.length 2 ++ cat p.side ++ [UInt8.ofNat p.k] ++ pend2 p from rfl)
  have hcl := cat_len p.side h2
  obtain ⟨ds, k, key, row⟩ := p
  dsimp only at *
  have hkl : key.data.toList.length = key.size := by simp
  have HKL := Lib.hid hkl
  clear hkl
  obtain ⟨n, hn1⟩ : ∃ n, ds.length = n := ⟨_, rfl⟩
  obtain ⟨m, hm1⟩ : ∃ m, row.length = m := ⟨_, rfl⟩
  rw [hn1] at a1 a3 h1 hcl HEN
  rw [hm1] at a2 a5 h4
  rw [hn1, hm1]
  have HN := Lib.hid hn1
  have HM := Lib.hid hm1
  have hb1 := Bx.new w (.slice A n c) (.int .u8 (k : Int)) (.string key) (.slice B m d) 65
  have hbel := (Below.refl w.heap.size w).alloc (Nat.le_refl _) (.cells #[.slice A n c, .int .u8 (k : Int), .string key, .slice B m d] 65)
  have hs1 := a1.alloc (.cells #[.slice A n c, .int .u8 (k : Int), .string key, .slice B m d] 65)
  have hr1 := a2.alloc (.cells #[.slice A n c, .int .u8 (k : Int), .string key, .slice B m d] 65)
  have hz1 : (w.alloc (.cells #[.slice A n c, .int .u8 (k : Int), .string key, .slice B m d] 65)).heap.size = w.heap.size + 1 := by simp
  have HKU := Lib.hid (show ((k : Nat) : Int) = ((UInt8.ofNat k).toNat : Int) by rw [UInt8.toNat_ofNat', Nat.mod_eq_of_lt h5])
  have hBlt : 0 < m → ∀ a, B = some a → a.block < w.heap.size := a2.lt
  clear hn1 hm1 a1 a2
  have hwr : IntKind.u64.wrap (n : Int) = (n : Int) := IntWalk.u64_in _ (by omega)
  go_enter Tryd.func79, Tryd.ntmps79
  go_wp2_with fail
  generalize w.alloc (.cells #[.slice A n c, .int .u8 (k : Int), .string key, .slice B m d] 65) = w0 at *
  obtain ⟨b0, hb0⟩ : ∃ b0, w.heap.size = b0 := ⟨_, rfl⟩
  rw [hb0] at hb1 hz1 hBlt ⊢
  have HB0 := Lib.hid hb0
  clear hb0
  refine (pAppendHigh_call _ w0.heap.size [] _ _ _ (Own.nil _ _ _) (Nat.le_refl _) (by omega) (by omega) (by omega) (by omega) (by simp)).mono ?_
  rintro _ w1 ⟨v1, rfl, ho1, hg1⟩
  have hbw1 : Below w0.heap.size w0 w1 := hg1.below (Below.refl _ _) (Own.nil _ w0.heap.size 0) (Nat.le_refl _) (Nat.le_refl _)
  rw [List.nil_append] at ho1
  clear hg1
  have HHL := Lib.hid (show (high ((n : Nat) : Int).toNat (2 : Int).toNat).length = 2 by rw [high_length]; rfl)
  have HEN2 := Lib.hid (show penc ⟨ds, k, key, row⟩ = high ((n : Nat) : Int).toNat (2 : Int).toNat ++ cat ds ++ [UInt8.ofNat k] ++ pend2 ⟨ds, k, key, row⟩ from HEN.out)
  clear HEN
  generalize high ((n : Nat) : Int).toNat (2 : Int).toNat = hd at *
  have HB1 := Lib.hid hb1
  obtain ⟨z0, z1, z2, z3, zf⟩ := hb1.below hbw1
  clear zf
  go_wp2_with fail
  clear z0 z1 z2 z3
  go_loopw [3, 5, 13] (fun q _ i w' => ∃ (j : Nat) (l : List UInt8), j ≤ n ∧ i = .int .i64 j ∧ l = hd ++ cat (ds.take j) ∧ Own w' w0.heap.size 5 q l ∧ Below w0.heap.size w0 w') (fun _ _ i _ => n - (intOf i).toNat)
  case atStart => exact ⟨0, hd, by omega, rfl, by simp [cat], ho1, hbw1⟩
  case round =>
    clear ho1 hbw1 hb1
    obtain ⟨j, l, hj, rfl, hl, hol, hbw⟩ := hrel
    obtain ⟨x0, x1, x2, x3, xf⟩ := HB1.out.below hbw
    clear xf
    have hzz := hbw.size
    by_cases hlt : j < n
    · have hjd : j < ds.length := by rw [HN.out]; exact hlt
      obtain ⟨gx, o, rfl, hc⟩ := SegS.cellAt (hs1.below hbw) hlt
      have hsz : (ds[j]).size ≤ 10000 := h2 _ (List.getElem_mem _)
      have HC := Lib.hid (cat_succ ds j hjd)
      have hln : l.length ≤ 2 + 10000 * j := by
        rw [hl, List.length_append, HHL.out]
        have := cat_len (ds.take j) fun s h => h2 s (List.mem_of_mem_take h)
        have e : (ds.take j).length = j := by rw [List.length_take]; omega
        rw [e] at this
        omega
      generalize ds[j]'(by rw [hs1.1]; exact hlt) = s at *
      obtain ⟨Aq, cq, rfl, _, _, _⟩ := hol.forms
      have HL := Lib.hid hl
      clear hl
      go_wp2_with (at_builtin
                   refine wpList_append_str _ rfl (.tmp 17) (.tmp 18) _ _ _ bt Tryd.underlying9 rfl w0.heap.size _ l rfl hol s rfl (by omega) hzz ?_
                   intro v3 w3 ho3 hg3
                   have hbw3 := below_grown hbw hol hg3 (Nat.le_refl _) hzz
                   clear hg3)
      go_roundw
      case rel => exact ⟨j + 1, _, by omega, by go_num, by rw [HL.out, HC.out, List.append_assoc], ho3, hbw3⟩
      case measure => simp [intOf]; omega
    · obtain rfl : n = j := by omega
      rw [List.take_of_length_le (by rw [HN.out]; omega)] at hl
      subst hl
      obtain ⟨Aq, cq, rfl, _, _, _⟩ := hol.forms
      have hll : (hd ++ cat ds).length ≤ 4000000 := by rw [List.length_append, HHL.out]; omega
      clear hs1
      generalize hd ++ cat ds = l at *
      have HLL := Lib.hid hll
      obtain ⟨l3, hl3⟩ : ∃ l3, l ++ [UInt8.ofNat k] = l3 := ⟨_, rfl⟩
      have HLL3 := Lib.hid (show l3.length ≤ 4000001 by rw [← hl3, List.length_append, List.length_singleton]; omega)
      obtain ⟨l4, hl4⟩ : ∃ l4, l3 ++ ptext key.data.toList = l4 := ⟨_, rfl⟩
      have HLL4 := Lib.hid (show l4.length ≤ 4010010 by have := HLL3.out; rw [← hl4, List.length_append]; unfold ptext; rw [List.length_append, high_length, HKL.out]; omega)
      have HL3 := Lib.hid hl3
      have HL4 := Lib.hid hl4
      clear hl3 hl4 hll
      have HP2 := Lib.hid (show pend2 ⟨ds, k, key, row⟩ = if k = 2 then ptext key.data.toList ++ ptext row else if k = 1 then ptext row else [] from rfl)
      obtain ⟨E, hE⟩ : ∃ E, penc ⟨ds, k, key, row⟩ = E := ⟨_, rfl⟩
      rw [hE] at HEN2
      have HE := Lib.hid hE
      clear hE
      generalize pend2 ⟨ds, k, key, row⟩ = tl at *
      by_cases hk2 : k = 2
      · have hq2 : ((k : Int) == 2) = true := by simp; omega
        have hq1 : ((k : Int) == 1) = false := by simp; omega
        have hT := HP2.out
        rw [if_pos hk2] at hT
        subst hT
        have HNE := Lib.hid hk2
        clear hk2
        go_wp2_with (first
          | (at_builtin
             refine wpList_append_seg _ rfl (.tmp 21) (.tmp 24) _ _ bt rfl w0.heap.size (.slice Aq l.length cq) l rfl (hol.alloc _) _ 1 1 [UInt8.ofNat k] rfl (Seg.one _ _ _ _ HKU.out) (by have := HLL.out; omega) (by simp; omega) ?_
             intro v3 w3 ho3 hg3 hat3
             have hbw3 := below_grown (hbw.alloc hzz _) (hol.alloc _) hg3 (Nat.le_refl _) (by simp; omega)
             obtain ⟨y0, y1, y2, y3, yf⟩ := HB1.out.below hbw3
             rw [HL3.out] at ho3
             obtain ⟨A3, c3, rfl, _, _, _⟩ := ho3.forms
             clear hg3 yf x0 x1 x2 x3 hat3)
          | (go_at_call 102
             refine (pTextS_any _ w0.heap.size l3 key _ ho3 hbw3.size (by omega) (by have := HLL3.out; omega)).mono ?_
             rintro _ w4 ⟨v4, rfl, ho4, hbv4⟩
             have hbw4 := hbw3.trans hbv4
             rw [HL4.out] at ho4
             obtain ⟨A4, c4, rfl, _, _, _⟩ := ho4.forms
             obtain ⟨u0, u1, u2, u3, uf⟩ := HB1.out.below hbw4
             clear uf ho3 y0 y1 y2 y3)
          | (go_at_call 103
             refine (pTextB_any _ w0.heap.size l4 B m d row _ ho4 hbw4.size (hr1.below hbw4) (fun hp a ha => by have := hBlt hp a ha; omega) (by omega) (by have := HLL4.out; omega)).mono ?_
             rintro _ w5 ⟨v5, rfl, ho5, hbv5⟩
             have hbw5 := hbw4.trans hbv5
             clear ho4))
        go_ret
        rw [HE.out, HEN2.out, HL3.out, ← List.append_assoc, HL4.out]
        refine ⟨_, rfl, ?_, ?_⟩
        · have := ho5.mono (b := b0) (by omega)
          rw [← HB0.out] at this ⊢
          exact this
        · exact (by rw [HB0.out]; exact (show Below b0 w w0 by rw [← HB0.out]; exact hbel).trans (hbw5.mono (by omega)))
      · by_cases hk1 : k = 1
        · have hq2 : ((k : Int) == 2) = false := by simp; omega
          have hq1 : ((k : Int) == 1) = true := by simp; omega
          have hT := HP2.out
          rw [if_neg hk2, if_pos hk1] at hT
          subst hT
          have HNE := Lib.hid hk1
          clear hk2 hk1
          go_wp2_with (first
            | (at_builtin
               refine wpList_append_seg _ rfl (.tmp 21) (.tmp 24) _ _ bt rfl w0.heap.size (.slice Aq l.length cq) l rfl (hol.alloc _) _ 1 1 [UInt8.ofNat k] rfl (Seg.one _ _ _ _ HKU.out) (by have := HLL.out; omega) (by simp; omega) ?_
               intro v3 w3 ho3 hg3 hat3
               have hbw3 := below_grown (hbw.alloc hzz _) (hol.alloc _) hg3 (Nat.le_refl _) (by simp; omega)
               obtain ⟨y0, y1, y2, y3, yf⟩ := HB1.out.below hbw3
               rw [HL3.out] at ho3
               obtain ⟨A3, c3, rfl, _, _, _⟩ := ho3.forms
               clear hg3 yf x0 x1 x2 x3 hat3)
            | (go_at_call 103
               refine (pTextB_any _ w0.heap.size l3 B m d row _ ho3 hbw3.size (hr1.below hbw3) (fun hp a ha => by have := hBlt hp a ha; omega) (by omega) (by have := HLL3.out; omega)).mono ?_
               rintro _ w5 ⟨v5, rfl, ho5, hbv5⟩
               have hbw5 := hbw3.trans hbv5
               clear ho3))
          go_ret
          rw [HE.out, HEN2.out, HL3.out]
          refine ⟨_, rfl, ?_, ?_⟩
          · have := ho5.mono (b := b0) (by omega)
            rw [← HB0.out] at this ⊢
            exact this
          · exact (by rw [HB0.out]; exact (show Below b0 w w0 by rw [← HB0.out]; exact hbel).trans (hbw5.mono (by omega)))
        · have hq2 : ((k : Int) == 2) = false := by simp; omega
          have hq1 : ((k : Int) == 1) = false := by simp; omega
          have hT := HP2.out
          rw [if_neg hk2, if_neg hk1] at hT
          subst hT
          clear hk2 hk1
          go_wp2_with (first
            | (at_builtin
               refine wpList_append_seg _ rfl (.tmp 21) (.tmp 24) _ _ bt rfl w0.heap.size (.slice Aq l.length cq) l rfl (hol.alloc _) _ 1 1 [UInt8.ofNat k] rfl (Seg.one _ _ _ _ HKU.out) (by have := HLL.out; omega) (by simp; omega) ?_
               intro v3 w3 ho3 hg3 hat3
               have hbw3 := below_grown (hbw.alloc hzz _) (hol.alloc _) hg3 (Nat.le_refl _) (by simp; omega)
               obtain ⟨y0, y1, y2, y3, yf⟩ := HB1.out.below hbw3
               rw [HL3.out] at ho3
               obtain ⟨A3, c3, rfl, _, _, _⟩ := ho3.forms
               clear hg3 yf x0 x1 x2 x3 hat3))
          go_ret
          rw [HE.out, HEN2.out, HL3.out, List.append_nil]
          refine ⟨_, rfl, ?_, ?_⟩
          · have := ho3.mono (b := b0) (by omega)
            rw [← HB0.out] at this ⊢
            exact this
          · exact (by rw [HB0.out]; exact (show Below b0 w w0 by rw [← HB0.out]; exact hbel).trans (hbw3.mono (by omega)))

end Go.Proofs.YtpbjianhkjjgkaaDoor

namespace Go.Proofs.YtpbjianhkjjgkaaDoor
open Go.RowKit

end Go.Proofs.YtpbjianhkjjgkaaDoor
