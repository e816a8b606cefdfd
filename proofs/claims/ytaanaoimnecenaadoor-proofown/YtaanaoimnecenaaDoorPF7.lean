/-
  Same of proofs, the program's and the document's.
-/
import Derived.Test.YtaanaoimnecenaaDoorPF4
import Derived.Test.YtaanaoimnecenaaDoorW2
namespace Go.Proofs.YtaanaoimnecenaaDoor
open Go.RowKit

set_option maxHeartbeats 1000000 in
theorem pAppendHigh_any (v : Value) (base : Nat) (l : List UInt8) (n size : Nat) (w : World) (ho : Own w base 5 v l) (hbase : base ≤ w.heap.size) (hsz : size ≤ 2) (hn : n ≤ 1000000) (hl : l.length ≤ 10000000) :
    Calls Tryd.prog 74 #[v, .int .i64 n, .int .i64 size] w fun e w' => ∃ v', e = .returned v' ∧ Own w' base 5 v' (l ++ high n size) ∧ Grew w w' v v' := by
  obtain ⟨A, c, rfl, hs, hlc, hcm⟩ := ho.forms
  go_enter Tryd.func74, Tryd.ntmps74
  go_wp2
  go_loopw [0, 7] (fun p i w' => ∃ (j : Nat) (d : List UInt8), j ≤ size ∧ i = .int .i64 ((j : Int) - 1) ∧ d ++ high n j = l ++ high n size ∧ d.length ≤ l.length + size - j ∧ Own w' base 5 p d ∧ Grew w w' (.slice A l.length c) p) (fun _ i _ => (intOf i + 1).toNat)
  case atStart => exact ⟨size, l, Nat.le_refl _, by go_num, rfl, by omega, ho, Grew.refl _ _⟩
  case round =>
    obtain ⟨j, d, hj, rfl, he, hd, hod, hgr⟩ := hrel
    have HE := Lib.hid he
    clear he
    obtain ⟨A', c', rfl, hs', hlc', hcm'⟩ := hod.forms
    rcases j with _ | j
    · go_wp2
      go_ret
      exact ⟨_, rfl, by have := HE.out; simp only [high, List.append_nil] at this; rw [← this]; exact hod, hgr⟩
    · have hdiv : n / 2 ^ (8 * j) ≤ n := Nat.div_le_self _ _
      have hdi : ((n : Int) / 2 ^ (8 * j)) = ((n / 2 ^ (8 * j) : Nat) : Int) := by rw [Int.natCast_ediv, Int.natCast_pow]; rfl
      have hwr : wrap64 ((n : Int) / 2 ^ (8 * j)) = ((n : Int) / 2 ^ (8 * j)) := IntWalk.wrap64_in _ (by
        rw [hdi]
        generalize n / 2 ^ (8 * j) = q at hdiv
        omega)
      clear hdi hdiv
      go_wp2_with (at_builtin
                   refine wpList_append_seg _ rfl (.tmp 14) (.tmp 20) _ _ bt rfl base (.slice A' d.length c') d rfl (hod.alloc _) _ 1 1 [UInt8.ofNat (n / 2 ^ (8 * j))] rfl (Seg.one _ _ _ _ (high_byte n j)) (by omega) (by have := hgr.1.size; simp; omega) ?_
                   intro v1 w1 hown1 hg1 hat1)
      go_roundw
      case rel =>
        refine ⟨j, d ++ [UInt8.ofNat (n / 2 ^ (8 * j))], by omega, by go_num, by rw [← HE.out]; simp [high], by simp; omega, hown1, hgr.trans ?_⟩
        exact (((Grew.refl _ _).alloc _).trans (Grew.of hg1 hat1))
      case measure => simp [intOf]

theorem pAppendHigh_call (v : Value) (base : Nat) (l : List UInt8) (x z : Int) (w : World) (ho : Own w base 5 v l) (hbase : base ≤ w.heap.size) (hx : 0 ≤ x) (hx1 : x ≤ 1000000) (h0 : 0 ≤ z) (hz : z ≤ 2) (hl : l.length ≤ 10000000) :
    Calls Tryd.prog 74 #[v, .int .i64 x, .int .i64 z] w fun e w' => ∃ v', e = .returned v' ∧ Own w' base 5 v' (l ++ high x.toNat z.toNat) ∧ Grew w w' v v' := by
  obtain ⟨n, rfl⟩ := Int.eq_ofNat_of_zero_le hx
  obtain ⟨m, rfl⟩ := Int.eq_ofNat_of_zero_le h0
  exact pAppendHigh_any v base l n m w ho hbase (by omega) (by omega) hl

set_option maxHeartbeats 1000000 in
theorem pTextS_any (v : Value) (base : Nat) (l : List UInt8) (k : ByteArray) (w : World) (ho : Own w base 5 v l) (hbase : base ≤ w.heap.size) (hk : k.size ≤ 100000) (hl : l.length ≤ 5000000) :
    Calls Tryd.prog 75 #[v, .string k] w fun e w' => ∃ v', e = .returned v' ∧ Own w' base 5 v' (l ++ ptext k.data.toList) ∧ Below base w w' := by
  obtain ⟨A, c, rfl, hs, hlc, hcm⟩ := ho.forms
  have hkl : k.data.toList.length = k.size := by simp
  go_enter Tryd.func75, Tryd.ntmps75
  go_wp2_with fail
  refine (pAppendHigh_call _ base l _ _ _ ho hbase (by omega) (by omega) (by omega) (by omega) (by omega)).mono ?_
  rintro _ w1 ⟨v1, rfl, ho1, hg1⟩
  have hb1 : Below base w w1 := hg1.below (Below.refl _ _) ho (Nat.le_refl _) hbase
  have hz1 := hb1.size
  have hlen : (l ++ high ((k.size : Nat) : Int).toNat (2 : Int).toNat).length ≤ 6000000 := by rw [List.length_append, high_length]; omega
  have HEQ := Lib.hid (show l ++ high ((k.size : Nat) : Int).toNat (2 : Int).toNat ++ k.data.toList = l ++ ptext k.data.toList by unfold ptext; rw [hkl, List.append_assoc]; rfl)
  generalize l ++ high ((k.size : Nat) : Int).toNat (2 : Int).toNat = l1 at *
  obtain ⟨A1, c1, rfl, _, _, _⟩ := ho1.forms
  go_wp2_with (at_builtin
               refine wpList_append_str _ rfl (.tmp 8) (.tmp 9) _ _ _ bt Tryd.underlying9 rfl base _ l1 rfl ho1 k rfl (by omega) (by omega) ?_
               intro v2 w2 ho2 hg2)
  go_ret
  rw [HEQ.out] at ho2
  exact ⟨_, rfl, ho2, below_grown hb1 ho1 hg2 (Nat.le_refl _) (by omega)⟩

set_option maxHeartbeats 1000000 in
theorem pTextB_any (v : Value) (base : Nat) (l : List UInt8) (B : Option Addr) (m d : Nat) (r : List UInt8) (w : World) (ho : Own w base 5 v l) (hbase : base ≤ w.heap.size) (hr : Seg w B m r) (hB : 0 < m → ∀ a, B = some a → a.block < base) (hk : m ≤ 100000) (hl : l.length ≤ 5000000) :
    Calls Tryd.prog 76 #[v, .slice B m d] w fun e w' => ∃ v', e = .returned v' ∧ Own w' base 5 v' (l ++ ptext r) ∧ Below base w w' := by
  obtain ⟨A, c, rfl, hs, hlc, hcm⟩ := ho.forms
  obtain rfl := hr.len
  go_enter Tryd.func76, Tryd.ntmps76
  go_wp2_with fail
  refine (pAppendHigh_call _ base l _ _ _ ho hbase (by omega) (by omega) (by omega) (by omega) (by omega)).mono ?_
  rintro _ w1 ⟨v1, rfl, ho1, hg1⟩
  have hb1 : Below base w w1 := hg1.below (Below.refl _ _) ho (Nat.le_refl _) hbase
  have hz1 := hb1.size
  have hr1 : Seg w1 B r.length r := hr.only (Only.of_grown (S := fun k => base ≤ k) hg1.1 (fun k hk => (ho.lt k hk).1)) (fun hn a ha => by have := hB hn a ha; omega)
  have hlen : (l ++ high ((r.length : Nat) : Int).toNat (2 : Int).toNat).length ≤ 6000000 := by rw [List.length_append, high_length]; omega
  have HEQ := Lib.hid (show l ++ high ((r.length : Nat) : Int).toNat (2 : Int).toNat ++ r = l ++ ptext r by unfold ptext; rw [List.append_assoc]; rfl)
  generalize l ++ high ((r.length : Nat) : Int).toNat (2 : Int).toNat = l1 at *
  obtain ⟨A1, c1, rfl, _, _, _⟩ := ho1.forms
  go_wp2_with (at_builtin
               refine wpList_append_seg _ rfl (.tmp 8) (.tmp 9) _ _ bt rfl base _ l1 rfl ho1 B r.length d r rfl hr1 (by omega) (by omega) ?_
               intro v2 w2 ho2 hg2 hat2)
  go_ret
  rw [HEQ.out] at ho2
  exact ⟨_, rfl, ho2, below_grown hb1 ho1 hg2 (Nat.le_refl _) (by omega)⟩

end Go.Proofs.YtaanaoimnecenaaDoor
/-
  The program's Encode of proofs.
-/
namespace Go.Proofs.YtaanaoimnecenaaDoor
open Go.RowKit

/-- A proof that is handed in: its rows may lie anywhere. -/
def PfAt (w : World) (v : Value) (p : Pf) : Prop :=
  ∃ A c B d, v = .agg #[.slice A p.side.length c, .int .u8 (p.k : Int), .string p.key, .slice B p.row.length d] ∧ SegS w A p.side.length p.side ∧ Seg w B p.row.length p.row ∧ p.side.length ≤ c ∧ c ≤ maxLen ∧ p.row.length ≤ d ∧ d ≤ maxLen
theorem PfAt.below {w w' : World} {v : Value} {p : Pf} (h : PfAt w v p) (hb : Below w.heap.size w w') : PfAt w' v p := by
  obtain ⟨A, c, B, d, e, h1, h2, h3⟩ := h
  exact ⟨A, c, B, d, e, h1.below hb, h2.below hb, h3⟩
theorem PfOwn.at_ {w : World} {base : Nat} {v : Value} {p : Pf} (h : PfOwn w base v p) : PfAt w v p := by
  obtain ⟨v1, v2, rfl, h1, h2⟩ := h
  obtain ⟨A, c, rfl, a1, a2, a3⟩ := h1.forms
  obtain ⟨B, d, rfl, b1, b2, b3⟩ := h2.forms
  exact ⟨A, c, B, d, rfl, a1, b1, a2, a3, b2, b3⟩

theorem takeS_eq {α : Type} {l r : List α} {n : Nat} (hl : l.length = n) (hr : r.length = n) (h : l.take n = r.take n) : l = r := by
  rw [List.take_of_length_le (by omega), List.take_of_length_le (by omega)] at h
  exact h
theorem boolOf {b : Bool} {p : Prop} (h : b = true ↔ p) (hp : ¬ p) : b = false := by
  rcases b with _ | _
  · rfl
  · exact absurd (h.1 rfl) hp

set_option maxHeartbeats 1000000 in
theorem texts_any (A B : Option Addr) (n m c d : Nat) (l r : List ByteArray) (b : Bool) (w : World) (ha : SegS w A n l) (hb : SegS w B m r) (hn : n ≤ 1000000) (hlr : b = true ↔ l = r) :
    Calls Tryd.prog 25 #[.slice A n c, .slice B m d] w fun e w' => e = .returned (.bool b) ∧ ∃ k, w' = w.drewN k := by
  have HLR := Lib.hid hlr
  clear hlr
  by_cases hnm : n = m
  · subst hnm
    go_enter Tryd.func25, Tryd.ntmps25
    go_wp2
    go_loopw [5] (fun i w' => ∃ k : Nat, k ≤ n ∧ i = .int .i64 k ∧ l.take k = r.take k ∧ ∃ q, w' = w.drewN q) (fun i _ => n - (intOf i).toNat)
    case atStart => exact ⟨0, by omega, rfl, by simp, 0, rfl⟩
    case round =>
      obtain ⟨k, hk, rfl, he, q, rfl⟩ := hrel
      by_cases hlt : k < n
      · obtain ⟨g, o, rfl, hc⟩ := SegS.cellAt ha hlt
        obtain ⟨g', o', rfl, hc'⟩ := SegS.cellAt hb hlt
        have hl1 : k < l.length := by rw [ha.1]; exact hlt
        have hl2 : k < r.length := by rw [hb.1]; exact hlt
        have HE := Lib.hid he
        clear he
        have hx1 := List.take_succ_eq_append_getElem hl1
        have hx2 := List.take_succ_eq_append_getElem hl2
        have hne : l[k] ≠ r[k] → l ≠ r := by rintro h rfl; exact h rfl
        have HX1 := Lib.hid hx1
        have HX2 := Lib.hid hx2
        have HNE := Lib.hid hne
        clear hx1 hx2 hne
        generalize l[k]'(by rw [ha.1]; exact hlt) = x at *
        generalize r[k]'(by rw [hb.1]; exact hlt) = y at *
        by_cases heq : x = y
        · have ht : (x.toList == y.toList) = true := by rw [heq]; simp
          have HQ := Lib.hid heq
          clear heq
          go_wp2
          go_quiet (fail)
          go_wp2
          go_roundw
          case rel =>
            exact ⟨k + 1, hlt, by go_num, by rw [HX1.out, HX2.out, HE.out, HQ.out], _, rfl⟩
          case measure => simp [intOf]; omega
        · have ht : (x.toList == y.toList) = false := by
            rw [beq_eq_false_iff_ne, ne_eq, toList_inj]
            exact heq
          go_wp2
          go_quiet (fail)
          go_wp2
          go_ret
          exact ⟨by rw [boolOf HLR.out (HNE.out heq)]; rfl, q + nq, World.drewN_drewN _ _ _⟩
      · go_wp2
        go_ret
        have hkn : k = n := by omega
        subst hkn
        exact ⟨by rw [HLR.out.2 (takeS_eq ha.1 hb.1 he)]; rfl, _, rfl⟩
  · have h1 : ((n : Int) != (m : Int)) = true := by simp; omega
    go_enter Tryd.func25, Tryd.ntmps25
    go_wp2
    go_ret
    have : ¬ l = r := by rintro rfl; exact hnm (ha.1.symm.trans hb.1)
    exact ⟨by rw [boolOf HLR.out this]; rfl, 0, rfl⟩

set_option maxHeartbeats 1000000 in
theorem equalS_any (A B : Option Addr) (n m c d : Nat) (l r : List ByteArray) (b : Bool) (w : World) (ha : SegS w A n l) (hb : SegS w B m r) (hn : n ≤ 1000000) (hlr : b = true ↔ l = r) :
    Calls Tryd.prog 80 #[.slice A n c, .slice B m d] w fun e w' => e = .returned (.bool b) ∧ ∃ k, w' = w.drewN k := by
  have HLR := Lib.hid hlr
  clear hlr
  by_cases hnm : n = m
  · subst hnm
    go_enter Tryd.func80, Tryd.ntmps80
    go_wp2
    go_loopw [13] (fun i w' => ∃ k : Nat, k ≤ n ∧ i = .int .i64 k ∧ l.take k = r.take k ∧ ∃ q, w' = w.drewN q) (fun i _ => n - (intOf i).toNat)
    case atStart => exact ⟨0, by omega, rfl, by simp, 0, rfl⟩
    case round =>
      obtain ⟨k, hk, rfl, he, q, rfl⟩ := hrel
      by_cases hlt : k < n
      · obtain ⟨g, o, rfl, hc⟩ := SegS.cellAt ha hlt
        obtain ⟨g', o', rfl, hc'⟩ := SegS.cellAt hb hlt
        have hl1 : k < l.length := by rw [ha.1]; exact hlt
        have hl2 : k < r.length := by rw [hb.1]; exact hlt
        have HE := Lib.hid he
        clear he
        have hx1 := List.take_succ_eq_append_getElem hl1
        have hx2 := List.take_succ_eq_append_getElem hl2
        have hne : l[k] ≠ r[k] → l ≠ r := by rintro h rfl; exact h rfl
        have HX1 := Lib.hid hx1
        have HX2 := Lib.hid hx2
        have HNE := Lib.hid hne
        clear hx1 hx2 hne
        generalize l[k]'(by rw [ha.1]; exact hlt) = x at *
        generalize r[k]'(by rw [hb.1]; exact hlt) = y at *
        by_cases heq : x = y
        · have ht : (x.toList == y.toList) = true := by rw [heq]; simp
          have HQ := Lib.hid heq
          clear heq
          go_wp2
          go_quiet (fail)
          go_wp2
          go_roundw
          case rel =>
            exact ⟨k + 1, hlt, by go_num, by rw [HX1.out, HX2.out, HE.out, HQ.out], _, rfl⟩
          case measure => simp [intOf]; omega
        · have ht : (x.toList == y.toList) = false := by
            rw [beq_eq_false_iff_ne, ne_eq, toList_inj]
            exact heq
          go_wp2
          go_quiet (fail)
          go_wp2
          go_ret
          exact ⟨by rw [boolOf HLR.out (HNE.out heq)]; rfl, q + nq, World.drewN_drewN _ _ _⟩
      · go_wp2
        go_ret
        have hkn : k = n := by omega
        subst hkn
        exact ⟨by rw [HLR.out.2 (takeS_eq ha.1 hb.1 he)]; rfl, _, rfl⟩
  · have h1 : ((n : Int) != (m : Int)) = true := by simp; omega
    go_enter Tryd.func80, Tryd.ntmps80
    go_wp2
    go_ret
    have : ¬ l = r := by rintro rfl; exact hnm (ha.1.symm.trans hb.1)
    exact ⟨by rw [boolOf HLR.out this]; rfl, 0, rfl⟩

set_option maxHeartbeats 1000000 in
theorem bEqual_any (A B : Option Addr) (n m c d : Nat) (l r : List UInt8) (w : World) (ha : Seg w A n l) (hb : Seg w B m r) :
    Calls Tryd.prog 81 #[.slice A n c, .slice B m d] w fun e w' => e = .returned (.bool (l == r)) ∧ w' = w := by
  have k1 := run_string_seg (P := Tryd.prog) w 29 9 5 bt Tryd.underlying9 A n c l ha
  have k2 := run_string_seg (P := Tryd.prog) w 29 9 5 bt Tryd.underlying9 B m d r hb
  go_enter Tryd.func81, Tryd.ntmps81
  go_wp2
  go_ret
  exact ⟨rfl, rfl⟩


theorem bel2 (w : World) (o u : Obj) (q : Nat) : Below w.heap.size w (((w.alloc o).alloc u).drewN q) := by
  have h := ((Below.refl w.heap.size w).alloc (Nat.le_refl _) o).alloc (by simp) u
  exact ⟨h.os, h.tape, h.output, h.size, h.block⟩

set_option maxHeartbeats 4000000 in
theorem psame_any (v u : Value) (p q : Pf) (b : Bool) (w : World) (hv : PfAt w v p) (hu : PfAt w u q) (hn : p.side.length ≤ 1000000) (hm : p.row.length ≤ 1000000) (hlr : b = true ↔ p = q) :
    Calls Tryd.prog 48 #[v, u] w fun e w' => e = .returned (.bool b) ∧ Below w.heap.size w w' := by
  obtain ⟨A, c, B, d, rfl, a1, a2, a3, a4, a5, a6⟩ := hv
  obtain ⟨A', c', B', d', rfl, b1, b2, b3, b4, b5, b6⟩ := hu
  obtain ⟨ds, k, key, row⟩ := p
  obtain ⟨es, j, cey, sow⟩ := q
  dsimp only at *
  obtain ⟨n, hn1⟩ : ∃ n, ds.length = n := ⟨_, rfl⟩
  obtain ⟨n', hn2⟩ : ∃ n', es.length = n' := ⟨_, rfl⟩
  obtain ⟨m, hm1⟩ : ∃ m, row.length = m := ⟨_, rfl⟩
  obtain ⟨m', hm2⟩ : ∃ m', sow.length = m' := ⟨_, rfl⟩
  rw [hn1] at a1 a3 hn
  rw [hn2] at b1 b3
  rw [hm1] at a2 a5 hm
  rw [hm2] at b2 b5
  rw [hn1, hn2, hm1, hm2]
  have HLR := Lib.hid hlr
  clear hlr hn1 hn2 hm1 hm2
  by_cases hx : ds = es
  · by_cases hk : k = j
    · have hk' : ((k : Int) == (j : Int)) = true := by simp [hk]
      by_cases hc : key = cey
      · have hc' : (key.toList == cey.toList) = true := by simp [hc]
        by_cases hr : row = sow
        · have hr' : (row == sow) = true := by simp [hr]
          go_enter Tryd.func48, Tryd.ntmps48
          go_wp2_with (first
      | (go_at_call 80; refine (equalS_any A A' n n' c c' ds es true _ ((a1.alloc _).alloc _) ((b1.alloc _).alloc _) hn (by simp [hx])).mono ?_; rintro _ w1 ⟨rfl, q1, rfl⟩)
      | (go_at_call 81; refine (bEqual_any B B' m m' d d' row sow _ (((a2.alloc _).alloc _).drewN q1) (((b2.alloc _).alloc _).drewN q1)).mono ?_; rintro _ w2 ⟨rfl, rfl⟩))
          go_ret
          refine ⟨by rw [HLR.out.2 (by rw [hx, hk, hc, hr])]; rfl, ?_⟩
          exact bel2 _ _ _ _
        · have hr' : (row == sow) = false := by simp [hr]
          go_enter Tryd.func48, Tryd.ntmps48
          go_wp2_with (first
      | (go_at_call 80; refine (equalS_any A A' n n' c c' ds es true _ ((a1.alloc _).alloc _) ((b1.alloc _).alloc _) hn (by simp [hx])).mono ?_; rintro _ w1 ⟨rfl, q1, rfl⟩)
      | (go_at_call 81; refine (bEqual_any B B' m m' d d' row sow _ (((a2.alloc _).alloc _).drewN q1) (((b2.alloc _).alloc _).drewN q1)).mono ?_; rintro _ w2 ⟨rfl, rfl⟩))
          go_ret
          refine ⟨by rw [boolOf HLR.out (fun h => hr (by injection h))]; rfl, ?_⟩
          exact bel2 _ _ _ _
      · have hc' : (key.toList == cey.toList) = false := by
          rw [beq_eq_false_iff_ne, ne_eq, toList_inj]
          exact hc
        go_enter Tryd.func48, Tryd.ntmps48
        go_wp2_with (first
      | (go_at_call 80; refine (equalS_any A A' n n' c c' ds es true _ ((a1.alloc _).alloc _) ((b1.alloc _).alloc _) hn (by simp [hx])).mono ?_; rintro _ w1 ⟨rfl, q1, rfl⟩)
      | (go_at_call 81; refine (bEqual_any B B' m m' d d' row sow _ (((a2.alloc _).alloc _).drewN q1) (((b2.alloc _).alloc _).drewN q1)).mono ?_; rintro _ w2 ⟨rfl, rfl⟩))
        go_ret
        refine ⟨by rw [boolOf HLR.out (fun h => hc (by injection h))]; rfl, ?_⟩
        exact bel2 _ _ _ _
    · have hk' : ((k : Int) == (j : Int)) = false := by simp; omega
      go_enter Tryd.func48, Tryd.ntmps48
      go_wp2_with (first
      | (go_at_call 80; refine (equalS_any A A' n n' c c' ds es true _ ((a1.alloc _).alloc _) ((b1.alloc _).alloc _) hn (by simp [hx])).mono ?_; rintro _ w1 ⟨rfl, q1, rfl⟩)
      | (go_at_call 81; refine (bEqual_any B B' m m' d d' row sow _ (((a2.alloc _).alloc _).drewN q1) (((b2.alloc _).alloc _).drewN q1)).mono ?_; rintro _ w2 ⟨rfl, rfl⟩))
      go_ret
      refine ⟨by rw [boolOf HLR.out (fun h => hk (by injection h))]; rfl, ?_⟩
      exact bel2 _ _ _ _
  · go_enter Tryd.func48, Tryd.ntmps48
    go_wp2_with (first
      | (go_at_call 80; refine (equalS_any A A' n n' c c' ds es false _ ((a1.alloc _).alloc _) ((b1.alloc _).alloc _) hn (by simp [hx])).mono ?_; rintro _ w1 ⟨rfl, q1, rfl⟩)
      | (go_at_call 81; refine (bEqual_any B B' m m' d d' row sow _ (((a2.alloc _).alloc _).drewN q1) (((b2.alloc _).alloc _).drewN q1)).mono ?_; rintro _ w2 ⟨rfl, rfl⟩))
    go_ret
    refine ⟨by rw [boolOf HLR.out (fun h => hx (by injection h))]; rfl, ?_⟩
    exact bel2 _ _ _ _

set_option maxHeartbeats 4000000 in
theorem rpsame_any (v u : Value) (p q : Pf) (b : Bool) (w : World) (hv : PfAt w v p) (hu : PfAt w u q) (hn : p.side.length ≤ 1000000) (hm : p.row.length ≤ 1000000) (hlr : b = true ↔ p = q) :
    Calls Tryd.prog 71 #[v, u] w fun e w' => e = .returned (.bool b) ∧ Below w.heap.size w w' := by
  obtain ⟨A, c, B, d, rfl, a1, a2, a3, a4, a5, a6⟩ := hv
  obtain ⟨A', c', B', d', rfl, b1, b2, b3, b4, b5, b6⟩ := hu
  obtain ⟨ds, k, key, row⟩ := p
  obtain ⟨es, j, cey, sow⟩ := q
  dsimp only at *
  obtain ⟨n, hn1⟩ : ∃ n, ds.length = n := ⟨_, rfl⟩
  obtain ⟨n', hn2⟩ : ∃ n', es.length = n' := ⟨_, rfl⟩
  obtain ⟨m, hm1⟩ : ∃ m, row.length = m := ⟨_, rfl⟩
  obtain ⟨m', hm2⟩ : ∃ m', sow.length = m' := ⟨_, rfl⟩
  rw [hn1] at a1 a3 hn
  rw [hn2] at b1 b3
  rw [hm1] at a2 a5 hm
  rw [hm2] at b2 b5
  rw [hn1, hn2, hm1, hm2]
  have HLR := Lib.hid hlr
  clear hlr hn1 hn2 hm1 hm2
  by_cases hx : ds = es
  · by_cases hk : k = j
    · have hk' : ((k : Int) == (j : Int)) = true := by simp [hk]
      by_cases hc : key = cey
      · have hc' : (key.toList == cey.toList) = true := by simp [hc]
        by_cases hr : row = sow
        · have hr' : (row == sow) = true := by simp [hr]
          go_enter Tryd.func71, Tryd.ntmps71
          go_wp2_with (first
      | (go_at_call 25; refine (texts_any A A' n n' c c' ds es true _ ((a1.alloc _).alloc _) ((b1.alloc _).alloc _) hn (by simp [hx])).mono ?_; rintro _ w1 ⟨rfl, q1, rfl⟩)
      | (go_at_call 21; refine (bytes_any B B' m m' d d' row sow _ (((a2.alloc _).alloc _).drewN q1) (((b2.alloc _).alloc _).drewN q1) (by simp only [maxLen]; omega)).mono ?_; rintro _ w2 ⟨rfl, q2, rfl⟩))
          go_ret
          refine ⟨by rw [HLR.out.2 (by rw [hx, hk, hc, hr])]; rfl, ?_⟩
          exact bel2 _ _ _ _
        · have hr' : (row == sow) = false := by simp [hr]
          go_enter Tryd.func71, Tryd.ntmps71
          go_wp2_with (first
      | (go_at_call 25; refine (texts_any A A' n n' c c' ds es true _ ((a1.alloc _).alloc _) ((b1.alloc _).alloc _) hn (by simp [hx])).mono ?_; rintro _ w1 ⟨rfl, q1, rfl⟩)
      | (go_at_call 21; refine (bytes_any B B' m m' d d' row sow _ (((a2.alloc _).alloc _).drewN q1) (((b2.alloc _).alloc _).drewN q1) (by simp only [maxLen]; omega)).mono ?_; rintro _ w2 ⟨rfl, q2, rfl⟩))
          go_ret
          refine ⟨by rw [boolOf HLR.out (fun h => hr (by injection h))]; rfl, ?_⟩
          exact bel2 _ _ _ _
      · have hc' : (key.toList == cey.toList) = false := by
          rw [beq_eq_false_iff_ne, ne_eq, toList_inj]
          exact hc
        go_enter Tryd.func71, Tryd.ntmps71
        go_wp2_with (first
      | (go_at_call 25; refine (texts_any A A' n n' c c' ds es true _ ((a1.alloc _).alloc _) ((b1.alloc _).alloc _) hn (by simp [hx])).mono ?_; rintro _ w1 ⟨rfl, q1, rfl⟩)
      | (go_at_call 21; refine (bytes_any B B' m m' d d' row sow _ (((a2.alloc _).alloc _).drewN q1) (((b2.alloc _).alloc _).drewN q1) (by simp only [maxLen]; omega)).mono ?_; rintro _ w2 ⟨rfl, q2, rfl⟩))
        go_ret
        refine ⟨by rw [boolOf HLR.out (fun h => hc (by injection h))]; rfl, ?_⟩
        exact bel2 _ _ _ _
    · have hk' : ((k : Int) == (j : Int)) = false := by simp; omega
      go_enter Tryd.func71, Tryd.ntmps71
      go_wp2_with (first
      | (go_at_call 25; refine (texts_any A A' n n' c c' ds es true _ ((a1.alloc _).alloc _) ((b1.alloc _).alloc _) hn (by simp [hx])).mono ?_; rintro _ w1 ⟨rfl, q1, rfl⟩)
      | (go_at_call 21; refine (bytes_any B B' m m' d d' row sow _ (((a2.alloc _).alloc _).drewN q1) (((b2.alloc _).alloc _).drewN q1) (by simp only [maxLen]; omega)).mono ?_; rintro _ w2 ⟨rfl, q2, rfl⟩))
      go_ret
      refine ⟨by rw [boolOf HLR.out (fun h => hk (by injection h))]; rfl, ?_⟩
      exact bel2 _ _ _ _
  · go_enter Tryd.func71, Tryd.ntmps71
    go_wp2_with (first
      | (go_at_call 25; refine (texts_any A A' n n' c c' ds es false _ ((a1.alloc _).alloc _) ((b1.alloc _).alloc _) hn (by simp [hx])).mono ?_; rintro _ w1 ⟨rfl, q1, rfl⟩)
      | (go_at_call 21; refine (bytes_any B B' m m' d d' row sow _ (((a2.alloc _).alloc _).drewN q1) (((b2.alloc _).alloc _).drewN q1) (by simp only [maxLen]; omega)).mono ?_; rintro _ w2 ⟨rfl, q2, rfl⟩))
    go_ret
    refine ⟨by rw [boolOf HLR.out (fun h => hx (by injection h))]; rfl, ?_⟩
    exact bel2 _ _ _ _

end Go.Proofs.YtaanaoimnecenaaDoor
