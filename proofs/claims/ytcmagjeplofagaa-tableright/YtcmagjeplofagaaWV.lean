/-
  The walks of what makes values of words, and keys of values.
-/
import Derived.Test.YtcmagjeplofagaaMemV
namespace Go.Proofs.Ytcmagjeplofagaa
open Go.RowKit

set_option maxHeartbeats 400000 in
theorem values_any (A : Option Addr) (n c : Nat) (l : List V) (w : World) (ha : SegV w A n l) (hn : n ≤ 1000000) (hw : ∀ x ∈ l, 0 ≤ x.k ∧ x.k ≤ 255 ∧ x.s.size ≤ maxLen) :
    Calls Try.prog 21 #[.slice A n c] w fun e w' => ∃ v, e = .returned v ∧ OwnV w' w.heap.size 41 v (l.map ofW) ∧ Below w.heap.size w w' := by
  go_enter Try.func21, Try.ntmps21
  go_wp2
  go_loopw [3, 4] (fun p i w' => ∃ (k : Nat) (d : List V), k ≤ n ∧ i = .int .i64 k ∧ d = (l.take k).map ofW ∧ OwnV w' w.heap.size 41 p d ∧ Below w.heap.size w w') (fun _ i _ => n - (intOf i).toNat)
  case atStart => exact ⟨0, [], Nat.zero_le _, rfl, rfl, OwnV.nil _ _ _, Below.refl _ _⟩
  case round =>
    obtain ⟨k, d, hk, rfl, hd, hod, hbw⟩ := hrel
    have hlen : d.length ≤ k := by rw [hd, List.length_map, List.length_take]; omega
    have HD := Lib.hid hd
    clear hd
    obtain ⟨A', c', rfl, hs', hlc', hcm'⟩ := hod.forms
    by_cases hlt : k < n
    · obtain ⟨g, o, rfl, h0, h1, h2⟩ := (ha.below hbw).at_ hlt
      have hm : l[k]'(by rw [ha.1]; exact hlt) ∈ l := List.getElem_mem _
      obtain ⟨y0, y1, y2⟩ := hw _ hm
      have hts : (l.take (k + 1)).map ofW = (l.take k).map ofW ++ [ofW (l[k]'(by rw [ha.1]; exact hlt))] := by
        rw [List.take_succ_eq_append_getElem (by rw [ha.1]; exact hlt), List.map_append]; rfl
      have HTS := Lib.hid hts
      clear hts hm
      go_wp2_with fail
      refine (of_any _ _ y0 y1 y2).mono ?_
      rintro e w1 ⟨rfl, hb1⟩
      have hod1 := hod.below hb1
      have hbw1 : Below w.heap.size w w1 := Below.next' hbw hb1 hbw.size
      clear hb1 hod
      go_wp2_with (at_builtin
                   refine wpList_append_vals _ rfl (.tmp 11) (.tmp 17) _ _ vt rfl w.heap.size _ _ rfl (hod1.alloc _) _ 1 1 [ofW (l[k]'(by rw [ha.1]; exact hlt))] rfl (SegV.newAt _ _ _ _ _ _ rfl rfl rfl) (by omega) (by have := hbw1.size; simp; omega) ?_
                   intro v2 w2 hown2 hg2 hat2)
      go_roundw
      case rel =>
        refine ⟨k + 1, d ++ [ofW (l[k]'(by rw [ha.1]; exact hlt))], hlt, by go_num, by rw [HTS.out, HD.out], hown2, ?_⟩
        exact below_grownV (hbw1.alloc hbw1.size _) (hod1.alloc _) hg2 (Nat.le_refl _) (by have := hbw1.size; simp; omega)
      case measure => simp [intOf]; omega
    · go_wp2
      go_ret
      refine ⟨_, rfl, ?_, hbw⟩
      have hk' : l.take k = l := List.take_of_length_le (by rw [ha.1]; omega)
      rw [HD.out, hk'] at hod
      rw [HD.out, hk']
      exact hod

/-- A number's eight bytes in a key: the highest bit is turned. -/
def keyNum (n : Int) : List UInt8 := high (u64N (n + 9223372036854775808)) 8
/-- A text's bytes in a key. -/
def keyText : List UInt8 → List UInt8
  | [] => []
  | b :: l => if b = 0 then 0 :: 255 :: keyText l else b :: keyText l
/-- A value's bytes in a key. -/
def keyOne (v : V) : List UInt8 := if v.k = 0 then [1] else if v.k = 1 then 2 :: keyNum v.n else 3 :: (keyText v.s.data.toList ++ [0, 1])
def keyOf (l : List V) : List UInt8 := l.flatMap keyOne

theorem keyText_append (l r : List UInt8) : keyText (l ++ r) = keyText l ++ keyText r := by
  induction l with
  | nil => rfl
  | cons b l ih =>
    rw [List.cons_append, keyText, keyText, ih]
    split <;> simp
theorem keyText_len (l : List UInt8) : (keyText l).length ≤ 2 * l.length := by
  induction l with
  | nil => simp [keyText]
  | cons b l ih =>
    rw [keyText]
    split <;> simp <;> omega
theorem keyOne_len (v : V) (h : v.Ok) : (keyOne v).length ≤ 500 := by
  rcases h.cases with rfl | ⟨n, rfl, _, _⟩ | ⟨s, rfl, hs⟩
  · decide
  · show (2 :: keyNum n).length ≤ 500
    simp [keyNum, high_length]
  · show (3 :: (keyText s.data.toList ++ [0, 1])).length ≤ 500
    have := keyText_len s.data.toList
    have h2 : s.data.toList.length = s.size := by simp
    simp
    omega
theorem keyOf_len (l : List V) (h : ∀ v ∈ l, v.Ok) : (keyOf l).length ≤ 500 * l.length := by
  induction l with
  | nil => simp [keyOf]
  | cons v l ih =>
    have h1 := keyOne_len v (h v (by simp))
    have h2 := ih fun x hx => h x (by simp [hx])
    show (keyOne v ++ keyOf l).length ≤ _
    rw [List.length_append, List.length_cons]
    omega
theorem keyOf_append (l r : List V) : keyOf (l ++ r) = keyOf l ++ keyOf r := by simp [keyOf]

set_option maxHeartbeats 400000 in
theorem appendText_any (v : Value) (base : Nat) (l : List UInt8) (s : ByteArray) (w : World) (ho : Own w base 5 v l) (hbase : base ≤ w.heap.size) (hs : s.size ≤ 200) (hl : l.length ≤ 1000000) :
    Calls Try.prog 61 #[v, .string s] w fun e w' => ∃ v', e = .returned v' ∧ Own w' base 5 v' (l ++ 3 :: (keyText s.data.toList ++ [0, 1])) ∧ Grew w w' v v' := by
  obtain ⟨A, c, rfl, hs0, hlc, hcm⟩ := ho.forms
  go_enter Try.func61, Try.ntmps61
  go_wp2_with (at_builtin
               refine wpList_append_seg _ rfl (.tmp 6) (.tmp 7) _ _ bt rfl base _ l rfl (ho.alloc _) _ 1 1 [3] rfl (Seg.one _ _ _ 3 rfl) (by omega) (by simp; omega) ?_
               intro v1 w1 hown1 hg1 hat1)
  have hgr1 : Grew w w1 (.slice A l.length c) v1 := ((Grew.refl _ _).alloc _).trans (Grew.of hg1 hat1)
  obtain ⟨d1, hd1⟩ : ∃ d1, l ++ [3] = d1 := ⟨_, rfl⟩
  rw [hd1] at hown1
  have HD1 := Lib.hid hd1
  clear hd1
  obtain ⟨A1, c1, rfl, hs1, hlc1, hcm1⟩ := hown1.forms
  go_loopw [0, 5, 11] (fun p _ i w' => ∃ (k : Nat) (d : List UInt8), k ≤ s.size ∧ i = .int .i64 k ∧ d = l ++ 3 :: keyText (s.data.toList.take k) ∧ Own w' base 5 p d ∧ Grew w w' (.slice A l.length c) p) (fun _ _ i _ => s.size - (intOf i).toNat)
  case atStart => exact ⟨0, d1, Nat.zero_le _, rfl, HD1.out.symm, hown1, hgr1⟩
  case round =>
    obtain ⟨k, d, hk, rfl, hd, hod, hgr⟩ := hrel
    have hdl : d.length ≤ l.length + 1 + 2 * k := by
      have := keyText_len (s.data.toList.take k)
      rw [List.length_take] at this
      rw [hd]
      simp
      omega
    have HD := Lib.hid hd
    clear hd
    obtain ⟨A', c', rfl, hs', hlc', hcm'⟩ := hod.forms
    by_cases hlt : k < s.size
    · have hts : s.data.toList.take (k + 1) = s.data.toList.take k ++ [s[k]] := by
        rw [List.take_succ_eq_append_getElem (by simpa using hlt)]; rfl
      have HTS := Lib.hid hts
      clear hts
      by_cases h0 : s[k] = 0
      · have hz : ((s[k].toNat : Int) == 0) = true := by rw [h0]; rfl
        have H0 := Lib.hid h0
        clear h0
        go_wp2_with (first
          | (at_builtin
             refine wpList_append_seg _ rfl (.tmp 14) (.tmp 18) _ _ bt rfl base _ d rfl (hod.alloc _) _ 1 1 [s[k]] rfl (Seg.one _ _ _ _ rfl) (by omega) (by have := hgr.1.size; simp; omega) ?_
             intro v2 w2 hown2 hg2 hat2
             have hgr2 : Grew wr w2 (.slice A' d.length c') v2 := ((Grew.refl _ _).alloc _).trans (Grew.of hg2 hat2)
             obtain ⟨d2, hd2⟩ : ∃ d2, d ++ [s[k]] = d2 := ⟨_, rfl⟩
             have hl2 : d2.length ≤ d.length + 1 := by rw [← hd2]; simp
             rw [hd2] at hown2
             have HD2 := Lib.hid hd2
             clear hd2
             obtain ⟨A2, c2, rfl, hs2, hlc2, hcm2⟩ := hown2.forms)
          | (at_builtin
             refine wpList_append_seg _ rfl (.tmp 24) (.tmp 25) _ _ bt rfl base _ d2 rfl (hown2.alloc _) _ 1 1 [255] rfl (Seg.one _ _ _ 255 rfl) (by omega) (by have := hgr.1.size; have := hgr2.1.size; simp; omega) ?_
             intro v3 w3 hown3 hg3 hat3
             have hgr3 : Grew w2 w3 (.slice A2 d2.length c2) v3 := ((Grew.refl _ _).alloc _).trans (Grew.of hg3 hat3)))
        go_roundw
        case rel =>
          refine ⟨k + 1, d2 ++ [255], hlt, by go_num, ?_, hown3, hgr.trans (hgr2.trans hgr3)⟩
          rw [← HD2.out, HD.out, HTS.out, keyText_append, H0.out]
          simp [keyText]
        case measure => simp [intOf]; omega
      · have hz : ((s[k].toNat : Int) == 0) = false := by
          rw [beq_eq_false_iff_ne]; intro h; exact h0 (UInt8.toNat_inj.1 (by simpa using h))
        go_wp2_with (first
          | (at_builtin
             refine wpList_append_seg _ rfl (.tmp 14) (.tmp 18) _ _ bt rfl base _ d rfl (hod.alloc _) _ 1 1 [s[k]] rfl (Seg.one _ _ _ _ rfl) (by omega) (by have := hgr.1.size; simp; omega) ?_
             intro v2 w2 hown2 hg2 hat2
             have hgr2 : Grew wr w2 (.slice A' d.length c') v2 := ((Grew.refl _ _).alloc _).trans (Grew.of hg2 hat2)
             obtain ⟨d2, hd2⟩ : ∃ d2, d ++ [s[k]] = d2 := ⟨_, rfl⟩
             rw [hd2] at hown2
             have HD2 := Lib.hid hd2
             clear hd2
             obtain ⟨A2, c2, rfl, hs2, hlc2, hcm2⟩ := hown2.forms))
        go_roundw
        case rel =>
          refine ⟨k + 1, d2, hlt, by go_num, ?_, hown2, hgr.trans hgr2⟩
          rw [← HD2.out, HD.out, HTS.out, keyText_append]
          simp [keyText, h0]
        case measure => simp [intOf]; omega
    · have hk' : s.data.toList.take k = s.data.toList := List.take_of_length_le (by simp; omega)
      have HK := Lib.hid hk'
      clear hk'
      go_wp2_with (first
          | (at_builtin
             refine wpList_append_seg _ rfl (.tmp 28) (.tmp 29) _ _ bt rfl base _ d rfl (hod.alloc _) _ 2 2 [0, 1] rfl (Seg.two _ _ _ _ 0 1 rfl rfl) (by omega) (by have := hgr.1.size; simp; omega) ?_
             intro v2 w2 hown2 hg2 hat2
             have hgr2 : Grew wr w2 (.slice A' d.length c') v2 := ((Grew.refl _ _).alloc _).trans (Grew.of hg2 hat2)))
      go_ret
      refine ⟨_, rfl, ?_, hgr.trans hgr2⟩
      have e := HD.out
      rw [HK.out] at e
      have h2 := hown2
      rw [e] at h2
      simpa using h2

theorem xor128 (b : UInt8) : bits .xor .u8 (b.toNat : Int) 128 = ((b ^^^ 128).toNat : Int) := by
  have := u8_xor_nat b.toNat 128 (byte_lt b) (by omega)
  rw [show ((128 : Nat) : Int) = 128 from rfl] at this
  rw [this, UInt8.toNat_xor]
  rfl

theorem xor128_nat : ∀ a, a < 256 → (a + 128) % 256 = a ^^^ 128 := by decide +kernel
theorem keyNum_eq (n : Int) : keyNum n = (UInt8.ofNat (u64N n / 2 ^ (8 * 7)) ^^^ 128) :: high (u64N n) 7 := by
  unfold keyNum
  have hm : u64N (n + 9223372036854775808) = (u64N n + 9223372036854775808) % 18446744073709551616 := by unfold u64N; omega
  have hlt := u64N_lt n
  rw [hm]
  generalize u64N n = m at *
  show UInt8.ofNat ((m + 9223372036854775808) % 18446744073709551616 / 2 ^ (8 * 7)) :: high ((m + 9223372036854775808) % 18446744073709551616) 7 = _
  have h7 : high ((m + 9223372036854775808) % 18446744073709551616) 7 = high m 7 := high_mod _ _ _ (by
    show (m + 9223372036854775808) % 18446744073709551616 % 72057594037927936 = m % 72057594037927936
    omega)
  rw [h7]
  congr 1
  apply UInt8.toNat_inj.1
  rw [UInt8.toNat_xor, UInt8.toNat_ofNat', UInt8.toNat_ofNat']
  show (m + 9223372036854775808) % 18446744073709551616 / 72057594037927936 % 256 = (m / 72057594037927936 % 256) ^^^ 128
  rw [← xor128_nat _ (by omega)]
  omega

set_option maxHeartbeats 400000 in
theorem appendNumber_any (v : Value) (base : Nat) (l : List UInt8) (n : Int) (w : World) (ho : Own w base 5 v l) (hbase : base ≤ w.heap.size) (h1 : -9223372036854775808 ≤ n) (h2 : n ≤ 9223372036854775807) (hl : l.length ≤ 1000000) :
    Calls Try.prog 60 #[v, .agg #[.int .u8 1, .int .i64 n, .string ⟨#[]⟩]] w fun e w' => ∃ v', e = .returned v' ∧ Own w' base 5 v' (l ++ 2 :: keyNum n) ∧ Grew w w' v v' := by
  obtain ⟨A, c, rfl, hs0, hlc, hcm⟩ := ho.forms
  go_enter Try.func60, Try.ntmps60
  go_wp2_with fail
  refine (encode_any ⟨1, n, ⟨#[]⟩⟩ _ (.inr (.inl ⟨rfl, rfl, h1, h2⟩))).mono ?_
  rintro e w1 ⟨r1, rfl, ho1, hb1⟩
  have hob := ho.alloc (.cells #[.int .u8 1, .int .i64 n, .string ⟨#[]⟩] 41)
  replace hob := hob.below hb1
  rw [enc_int] at ho1
  have hK := keyNum_eq n
  have HK := Lib.hid hK
  clear hK
  have hh8 : high (u64N n) 8 = UInt8.ofNat (u64N n / 2 ^ (8 * 7)) :: high (u64N n) 7 := rfl
  rw [hh8] at ho1
  generalize UInt8.ofNat (u64N n / 2 ^ (8 * 7)) = b at *
  have hl7 : (high (u64N n) 7).length = 7 := high_length _ _
  generalize high (u64N n) 7 = rs at *
  obtain ⟨g, cap, hr1, hbg⟩ : ∃ g cap, r1 = .slice (some ⟨g, 0, none⟩) 9 cap ∧ w.heap.size < g := by
    rcases ho1.2 with ⟨_, hz⟩ | ⟨g, cap, cur, hh, hb, _⟩
    · simp at hz
    · refine ⟨g, cap, ?_, by simp at hb; omega⟩
      rw [hh]
      simp [hl7]
  subst hr1
  have hown : w1.ownsRow (w.alloc (.cells #[.int .u8 1, .int .i64 n, .string ⟨#[]⟩] 41)).heap.size 5 1 (.slice (some ⟨g, 0, none⟩) 9 cap) 9 (cellsB (1 :: b :: rs)) := by
    have := ho1
    unfold Own at this
    rwa [show (1 :: b :: rs).length = 9 by simp [hl7]] at this
  have hc0 : w1.cell? ⟨g, 0, none⟩ = some (.int .u8 1) := hown.cellAt 0 (by omega)
  have hc1 : w1.cell? ⟨g, 1, none⟩ = some (.int .u8 (b.toNat : Int)) := hown.cellAt 1 (by omega)
  have hf0 : w1.frozen? ⟨g, 0, none⟩ = false := hown.frozenAt 0
  have hf1 : w1.frozen? ⟨g, 1, none⟩ = false := hown.frozenAt 1
  have hx := xor128 b
  have hst := ((hown.stored 0 (.int .u8 2)).1.stored 1 (.int .u8 ((b ^^^ 128).toNat : Int))).1
  have hst' : Own ((w1.setCell ⟨g, 0, none⟩ (.int .u8 2)).setCell ⟨g, 1, none⟩ (.int .u8 ((b ^^^ 128).toNat : Int))) (w.alloc (.cells #[.int .u8 1, .int .i64 n, .string ⟨#[]⟩] 41)).heap.size 5 (.slice (some ⟨g, 0, none⟩) 9 cap) (2 :: (b ^^^ 128) :: rs) := by
    unfold Own
    rw [show (2 :: (b ^^^ 128) :: rs).length = 9 by simp [hl7]]
    exact hst
  obtain ⟨A9, c9, h9, hs9, _, _⟩ := hst'.forms
  rw [show (2 :: (b ^^^ 128) :: rs).length = 9 by simp [hl7]] at h9 hs9
  injection h9 with h9a h9b h9c
  subst h9a
  clear h9b h9c
  have hgb : Grew (w.alloc (.cells #[.int .u8 1, .int .i64 n, .string ⟨#[]⟩] 41)) w1 (.slice A l.length c) (.slice A l.length c) := ⟨⟨hb1.os, hb1.tape, hb1.output, hb1.size, fun k hk _ => hb1.block k hk⟩, .inl rfl⟩
  have hne : ∀ k, Value.ownBlock (.slice A l.length c) = some k → k < w.heap.size := fun k hk => (ho.lt k hk).2
  have hgs : w1.grownBy ((w1.setCell ⟨g, 0, none⟩ (.int .u8 2)).setCell ⟨g, 1, none⟩ (.int .u8 ((b ^^^ 128).toNat : Int))) (some g) :=
    ⟨rfl, rfl, rfl, by simp [World.setCell], fun k _ hk => by
      have hkg : k ≠ g := fun e => hk (by rw [e])
      rw [Below.heap_setCell _ _ _ _ hkg, Below.heap_setCell _ _ _ _ hkg]⟩
  have hob2 := hob.kept hgs (by
    rcases hv : Value.ownBlock (.slice A l.length c) with _ | k
    · exact .inl rfl
    · refine .inr fun e => ?_
      injection e with e
      have := hne k hv
      omega)
  have HGS := Lib.hid hgs
  clear hst hst' hown ho1 hs0 hob hgs
  have hbx : (((b ^^^ 128).toNat : Nat) : Int) = ((b.toNat ^^^ 128 : Nat) : Int) := by rw [UInt8.toNat_xor]; rfl
  rw [hbx] at hs9 hob2 hx
  have HGR : Hid (w1.grownBy ((w1.setCell ⟨g, 0, none⟩ (.int .u8 2)).setCell ⟨g, 1, none⟩ (.int .u8 ((b.toNat ^^^ 128 : Nat) : Int))) (some g)) := by rw [← hbx]; exact HGS.out
  clear hbx HGS
  have hlt1 : w.heap.size + 1 ≤ w1.heap.size := by have := hb1.size; simp at this; omega
  have hgl : g < w1.heap.size := World.block_lt_of_cell? w1 _ hc0
  have hp9 : (1 : Int) < 9 := by omega
  go_wp2_with (first
    | (at_builtin
       refine wpList_append_seg _ rfl (.tmp 15) (.tmp 16) _ _ bt rfl base _ l rfl hob2 _ 9 cap (2 :: (b ^^^ 128) :: rs) rfl hs9 (by omega) (by simp; omega) ?_
       intro v2 w2 hown2 hg2 hat2))
  go_ret
  refine ⟨_, rfl, by rw [HK.out]; exact hown2, ?_⟩
  have hgr := HGR.out
  have hA := (((Grew.refl w (.slice A l.length c)).alloc (.cells #[.int .u8 1, .int .i64 n, .string ⟨#[]⟩] 41)).trans hgb).1
  have hsz2 := hgr.size
  have hsz3 := hA.size
  refine ⟨⟨hg2.os.trans (hgr.os.trans hA.os), hg2.tape.trans (hgr.tape.trans hA.tape), hg2.output.trans (hgr.output.trans hA.output), Nat.le_trans hsz3 (Nat.le_trans hsz2 hg2.size), fun k hk hne => ?_⟩, ?_⟩
  · rw [hg2.block k (by omega) hne, hgr.block k (by omega) (fun e => by injection e with e; omega), hA.block k hk hne]
  · rcases hat2 with e | e
    · exact .inl e
    · exact .inr ⟨_, e, Nat.le_trans hsz3 hsz2⟩

set_option maxHeartbeats 1000000 in
theorem key_any (A : Option Addr) (n c : Nat) (l : List V) (w : World) (ha : SegV w A n l) (hn : n ≤ 1000) (hok : ∀ v ∈ l, v.Ok) :
    Calls Try.prog 44 #[.slice A n c] w fun e w' => ∃ v, e = .returned v ∧ Own w' w.heap.size 5 v (keyOf l) ∧ Below w.heap.size w w' := by
  go_enter Try.func44, Try.ntmps44
  go_wp2
  go_loopw [3, 5, 8] (fun p _ i w' => ∃ (k : Nat) (d : List UInt8), k ≤ n ∧ i = .int .i64 k ∧ d = keyOf (l.take k) ∧ Own w' w.heap.size 5 p d ∧ Below w.heap.size w w') (fun _ _ i _ => n - (intOf i).toNat)
  case atStart => exact ⟨0, [], Nat.zero_le _, rfl, rfl, Own.nil _ _ _, Below.refl _ _⟩
  case round =>
    obtain ⟨k, d, hk, rfl, hd, hod, hbw⟩ := hrel
    have hdl : d.length ≤ 500 * k := by
      rw [hd]
      have := keyOf_len (l.take k) fun v hv => hok v (List.mem_of_mem_take hv)
      rw [List.length_take] at this
      exact Nat.le_trans this (Nat.mul_le_mul_left _ (Nat.min_le_left _ _))
    have HD := Lib.hid hd
    clear hd
    obtain ⟨A', c', rfl, hs', hlc', hcm'⟩ := hod.forms
    by_cases hlt : k < n
    · obtain ⟨g, o, rfl, h0, h1, h2⟩ := (ha.below hbw).at_ hlt
      have hm : l[k]'(by rw [ha.1]; exact hlt) ∈ l := List.getElem_mem _
      have hvo := hok _ hm
      have hts : keyOf (l.take (k + 1)) = keyOf (l.take k) ++ keyOne (l[k]'(by rw [ha.1]; exact hlt)) := by
        rw [List.take_succ_eq_append_getElem (by rw [ha.1]; exact hlt), keyOf_append]
        simp [keyOf]
      have HTS := Lib.hid hts
      clear hts hm
      generalize l[k]'(by rw [ha.1]; exact hlt) = x at *
      have hg : g < wr.heap.size := World.block_lt_of_cell? wr _ h0
      rcases hvo.cases with rfl | ⟨m, rfl, hm1, hm2⟩ | ⟨s, rfl, hsz⟩
      · dsimp only [V.none] at h0 h1 h2
        go_wp2_with (first
          | (at_builtin
             refine wpList_append_seg _ rfl (.tmp 16) (.tmp 17) _ _ bt rfl w.heap.size _ d rfl ((hod.alloc _).alloc _) _ 1 1 [1] rfl (Seg.one' _ _ _ _ 1 (by simp) rfl) (by omega) (by have := hbw.size; simp; omega) ?_
             intro v2 w2 hown2 hg2 hat2))
        go_roundw
        case rel =>
          refine ⟨k + 1, d ++ [1], hlt, by go_num, by rw [HTS.out, HD.out]; rfl, hown2, ?_⟩
          exact below_grown ((hbw.alloc hbw.size _).alloc (by have := hbw.size; simp; omega) _) ((hod.alloc _).alloc _) hg2 (Nat.le_refl _) (by have := hbw.size; simp; omega)
        case measure => simp [intOf]; omega
      · go_wp2_with fail
        refine (appendNumber_any _ w.heap.size d m _ (hod.alloc _) (by have := hbw.size; simp; omega) hm1 hm2 (by omega)).mono ?_
        rintro e w1 ⟨r1, rfl, ho1, hg1⟩
        obtain ⟨d1, hd1⟩ : ∃ d1, d ++ 2 :: keyNum m = d1 := ⟨_, rfl⟩
        rw [hd1] at ho1
        have HD1 := Lib.hid hd1
        clear hd1
        have hbw1 : Below w.heap.size w w1 := hg1.below (hbw.alloc hbw.size _) (hod.alloc _) (Nat.le_refl _) (by have := hbw.size; simp; omega)
        obtain ⟨A1, c1, rfl, hs1, hlc1, hcm1⟩ := ho1.forms
        go_wp2
        go_roundw
        case rel =>
          exact ⟨k + 1, d1, hlt, by go_num, by rw [← HD1.out, HTS.out, HD.out]; rfl, ho1, hbw1⟩
        case measure => simp [intOf]; omega
      · go_wp2_with fail
        refine (appendText_any _ w.heap.size d s _ (hod.alloc _) (by have := hbw.size; simp; omega) hsz (by omega)).mono ?_
        rintro e w1 ⟨r1, rfl, ho1, hg1⟩
        obtain ⟨d1, hd1⟩ : ∃ d1, d ++ 3 :: (keyText s.data.toList ++ [0, 1]) = d1 := ⟨_, rfl⟩
        rw [hd1] at ho1
        have HD1 := Lib.hid hd1
        clear hd1
        have hbw1 : Below w.heap.size w w1 := hg1.below (hbw.alloc hbw.size _) (hod.alloc _) (Nat.le_refl _) (by have := hbw.size; simp; omega)
        obtain ⟨A1, c1, rfl, hs1, hlc1, hcm1⟩ := ho1.forms
        go_wp2
        go_roundw
        case rel =>
          exact ⟨k + 1, d1, hlt, by go_num, by rw [← HD1.out, HTS.out, HD.out]; rfl, ho1, hbw1⟩
        case measure => simp [intOf]; omega
    · go_wp2
      go_ret
      refine ⟨_, rfl, ?_, hbw⟩
      have hk' : l.take k = l := List.take_of_length_le (by rw [ha.1]; omega)
      rw [HD.out, hk'] at hod
      rw [HD.out, hk']
      exact hod

theorem key_zero : keyOf [⟨1, 0, ⟨#[]⟩⟩] = [2, 128, 0, 0, 0, 0, 0, 0, 0] := by decide +kernel
theorem key_nul : keyOf [⟨2, 0, ⟨#[0]⟩⟩] = [3, 0, 255, 0, 1] := by decide +kernel

end Go.Proofs.Ytcmagjeplofagaa
