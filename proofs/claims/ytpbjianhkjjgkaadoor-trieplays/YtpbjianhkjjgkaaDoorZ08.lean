/-
  Texts of one claim, joined.
-/
import Derived.Test.YtpbjianhkjjgkaaDoorZ01
import Derived.Test.YtpbjianhkjjgkaaDoorZ05
import Derived.Test.YtpbjianhkjjgkaaDoorZ07
import Derived.Deep.RegionWith
import Derived.Lib.Strings
import Derived.Laws.Concat
namespace Go.Proofs.YtpbjianhkjjgkaaDoor
open Go.RowKit

theorem Seg.five (w : World) (x3 x2 x1 x0 : Int) (t : TypeId) (n g : Nat) (hg : g = w.heap.size) (h3 : x3 = ((UInt8.ofNat (n / 2 ^ (8 * 3))).toNat : Int)) (h2 : x2 = ((UInt8.ofNat (n / 2 ^ (8 * 2))).toNat : Int))
    (h1 : x1 = ((UInt8.ofNat (n / 2 ^ (8 * 1))).toNat : Int)) (h0 : x0 = ((UInt8.ofNat (n / 2 ^ (8 * 0))).toNat : Int)) :
    Seg (w.alloc (.cells #[.int .u8 1, .int .u8 x3, .int .u8 x2, .int .u8 x1, .int .u8 x0] t)) (some ⟨g, 0, none⟩) 5 ([1] ++ high n 4) := by
  subst hg h3 h2 h1 h0
  exact Seg.newAt _ _ _ _ _ _ rfl rfl rfl
theorem nat_bytes (n : Nat) : (n : Int) / 16777216 % 256 = ((UInt8.ofNat (n / 2 ^ (8 * 3))).toNat : Int) ∧ (n : Int) / 65536 % 256 = ((UInt8.ofNat (n / 2 ^ (8 * 2))).toNat : Int) ∧ (n : Int) / 256 % 256 = ((UInt8.ofNat (n / 2 ^ (8 * 1))).toNat : Int) ∧ (n : Int) % 256 = ((UInt8.ofNat (n / 2 ^ (8 * 0))).toNat : Int) := by
  have b3 := high_byte n 3
  have b2 := high_byte n 2
  have b1 := high_byte n 1
  have b0 := high_byte n 0
  rw [show ((2 : Int) ^ (8 * 3)) = 16777216 from by decide] at b3
  rw [show ((2 : Int) ^ (8 * 2)) = 65536 from by decide] at b2
  rw [show ((2 : Int) ^ (8 * 1)) = 256 from by decide] at b1
  rw [show ((2 : Int) ^ (8 * 0)) = 1 from by decide, Int.ediv_one] at b0
  exact ⟨b3, b2, b1, b0⟩

set_option maxHeartbeats 1000000 in
theorem leafB_any (k : ByteArray) (A : Option Addr) (n c : Nat) (l : List UInt8) (w : World) (ha : Seg w A n l) (hk : k.size ≤ 1000000000) (hn : n ≤ 1000000000) :
    Calls Tryd.prog 126 #[.string k, .slice A n c] w fun e w' => ∃ v, e = .returned v ∧ Own w' w.heap.size 5 v (leafL k.data.toList l) ∧ Below w.heap.size w w' := by
  go_enter Tryd.func126, Tryd.ntmps126
  obtain ⟨i, hi, hz0, hz1, hz2⟩ := info_parts bt.hi
  have hwr : IntKind.u32.wrap (k.size : Int) = (k.size : Int) := IntWalk.u32_in _ (by omega)
  have HE := Lib.hid (nat_bytes k.size)
  have HE3 := Lib.hid (show (k.size : Int) / 16777216 = ((UInt8.ofNat (k.size / 2 ^ (8 * 3))).toNat : Int) by rw [← (nat_bytes k.size).1]; omega)
  have H5 := Lib.hid (show ([1] ++ high k.size 4).length = 5 by rw [List.length_append, high_length]; rfl)
  have HK := Lib.hid (show k.data.toList.length = k.size by simp)
  go_wp2_with (first
    | (at_make
       refine wpList_make_own _ rfl (.const (.int .i64 0)) (.tmp 15) _ rfl w.heap.size 5 i _ 1 bt.ht hi hz0 hz1 .i64 .i64 _ (5 + k.size + n) rfl rfl (by omega) (by rw [hz2]; omega) (by simp only [maxLen]; omega) (Nat.le_refl _) ?_
       intro w1 ho1 hg1
       have ho : Own w1 w.heap.size 5 (.slice (some ⟨w.heap.size, 0, none⟩) 0 (5 + k.size + n)) [] := ho1
       have hb1 : Below w.heap.size w w1 := (Below.refl _ _).grown hg1 (Nat.le_refl _) (by intro k hk; cases hk)
       clear ho1 hg1 hi hz0 hz1 hz2 i
       have hsz1 := hb1.size)
    | (at_builtin
       refine wpList_append_seg _ rfl (.tmp 17) (.tmp 29) _ _ bt rfl w.heap.size (.slice (some ⟨w.heap.size, 0, none⟩) 0 (5 + k.size + n)) [] rfl (Own.alloc ho _) _ 5 5 ([1] ++ high k.size 4) rfl (Seg.five _ _ _ _ _ _ _ _ rfl HE3.out HE.out.2.1 HE.out.2.2.1 HE.out.2.2.2) (by simp) (by simp; omega) ?_
       intro v2 w2 hown2 hg2 _
       have hb2 : Below w.heap.size w w2 := below_grown (hb1.alloc hsz1 _) (Own.alloc ho _) hg2 (Nat.le_refl _) (by simp; omega)
       clear hg2)
    | (at_builtin
       refine wpList_append_str _ rfl (.tmp 31) (.tmp 32) _ _ _ bt Tryd.underlying9 rfl w.heap.size v2 _ rfl hown2 k rfl (by rw [List.nil_append, H5.out]; omega) hb2.size ?_
       intro v3 w3 hown3 hg3
       have hb3 : Below w.heap.size w w3 := below_grown hb2 hown2 hg3 (Nat.le_refl _) hb2.size
       clear hg3)
    | (at_builtin
       refine wpList_append_seg _ rfl (.tmp 34) (.tmp 35) _ _ bt rfl w.heap.size v3 _ rfl hown3 A n c l rfl (ha.below hb3) (by rw [List.length_append, List.nil_append, H5.out, HK.out]; omega) hb3.size ?_
       intro v4 w4 hown4 hg4 _
       have hb4 : Below w.heap.size w w4 := below_grown hb3 hown3 hg4 (Nat.le_refl _) hb3.size
       clear hg4))
  go_ret
  refine ⟨v4, rfl, ?_, hb4⟩
  unfold leafL
  rw [HK.out]
  simpa using hown4

/-- Texts that lie one behind the other in memory. -/
def Strs (w : World) (g o : Nat) (ds : List ByteArray) : Prop := ∀ j s, ds[j]? = some s → w.cell? ⟨g, o + j, none⟩ = some (.string s)
def catS (ds : List ByteArray) : List UInt8 := ds.flatMap fun s => s.data.toList
theorem catS_snoc (ds : List ByteArray) (s : ByteArray) : catS (ds ++ [s]) = catS ds ++ s.data.toList := by
  unfold catS
  rw [List.flatMap_append, List.flatMap_cons, List.flatMap_nil, List.append_nil]
theorem catS_len (ds : List ByteArray) (h : ∀ s ∈ ds, s.size ≤ 100000000) : (catS ds).length ≤ 100000000 * ds.length := by
  induction ds with
  | nil => exact Nat.le_refl _
  | cons s ds ih =>
    have h1 := ih fun t ht => h t (List.mem_cons_of_mem _ ht)
    have h2 := h s (List.mem_cons_self ..)
    show (s.data.toList ++ catS ds).length ≤ _
    rw [List.length_append, List.length_cons]
    have : s.data.toList.length = s.size := by simp
    omega

set_option maxHeartbeats 1000000 in
theorem mjoin_any (x : Int) (b : UInt8) (hx : x = (b.toNat : Int)) (g o c : Nat) (ds : List ByteArray) (n : Nat) (hnd : ds.length = n) (w : World) (hs : Strs w g o ds) (hn : n ≤ 1000) (hsz : ∀ s ∈ ds, s.size ≤ 100000000) :
    Calls Tryd.prog 132 #[.int .u8 x, .slice (some ⟨g, o, none⟩) n c] w fun e w' => ∃ v, e = .returned v ∧ Own w' w.heap.size 5 v (b :: catS ds) ∧ Below w.heap.size w w' := by
  have HX := Lib.hid hx
  have HND := Lib.hid hnd
  clear hx hnd
  go_enter Tryd.func132, Tryd.ntmps132
  obtain ⟨i, hi, hz0, hz1, hz2⟩ := info_parts bt.hi
  go_wp2_with (first
    | (at_make
       refine wpList_make_own _ rfl (.const (.int .i64 0)) (.tmp 11) _ rfl w.heap.size 5 i _ 1 bt.ht hi hz0 hz1 .i64 .i64 _ (1 + n * 32) rfl rfl (by omega) (by rw [hz2]; omega) (by simp only [maxLen]; omega) (Nat.le_refl _) ?_
       intro w1 ho1 hg1
       have ho : Own w1 w.heap.size 5 (.slice (some ⟨w.heap.size, 0, none⟩) 0 (1 + n * 32)) [] := ho1
       have hb1 : Below w.heap.size w w1 := (Below.refl _ _).grown hg1 (Nat.le_refl _) (by intro k hk; cases hk)
       clear ho1 hg1 hi hz0 hz1 hz2 i
       have hsz1 := hb1.size)
    | (at_builtin
       refine wpList_append_seg _ rfl (.tmp 13) (.tmp 15) _ _ bt rfl w.heap.size (.slice (some ⟨w.heap.size, 0, none⟩) 0 (1 + n * 32)) [] rfl (Own.alloc ho _) _ 1 1 [b] rfl (Seg.one _ _ _ _ HX.out) (by simp) (by simp; omega) ?_
       intro v2 w2 hown2 hg2 _
       have hb2 : Below w.heap.size w w2 := below_grown (hb1.alloc hsz1 _) (Own.alloc ho _) hg2 (Nat.le_refl _) (by simp; omega)
       clear hg2))
  clear ho hb1 hsz1
  go_loopw [5, 7, 19] (fun p _ i w' => ∃ (k : Nat) (d : List UInt8), k ≤ n ∧ i = .int .i64 k ∧ d = b :: catS (ds.take k) ∧ Own w' w.heap.size 5 p d ∧ Below w.heap.size w w') (fun _ _ i _ => n - (intOf i).toNat)
  case atStart => exact ⟨0, [b], by omega, rfl, rfl, hown2, hb2⟩
  case round =>
    clear hown2 hb2
    obtain ⟨k, d, hk, rfl, hd, hod, hbw⟩ := hrel
    by_cases hlt : k < n
    · have hkd : k < ds.length := by rw [HND.out]; exact hlt
      have hc := cell_below hbw (hs k _ (List.getElem?_eq_getElem hkd))
      have HT := Lib.hid (show ds.take (k + 1) = ds.take k ++ [ds[k]] from List.take_succ_eq_append_getElem hkd)
      have hz : (ds[k]).size ≤ 100000000 := hsz _ (List.getElem_mem _)
      have hdl : d.length ≤ 1 + 100000000 * k := by
        rw [hd, List.length_cons]
        have := catS_len (ds.take k) fun s h => hsz s (List.mem_of_mem_take h)
        have h2 : (ds.take k).length = k := by rw [List.length_take]; omega
        rw [h2] at this
        omega
      have HD := Lib.hid hd
      clear hd
      generalize ds[k] = s at *
      clear hkd
      go_wp2_with (first | (
         at_builtin
         refine wpList_append_str _ rfl (.tmp 23) (.tmp 24) _ _ _ bt Tryd.underlying9 rfl w.heap.size _ d rfl hod s rfl (by omega) hbw.size ?_
         intro v3 w3 hown3 hg3
         have hb3 : Below w.heap.size w w3 := below_grown hbw hod hg3 (Nat.le_refl _) hbw.size
         clear hg3))
      go_roundw
      case rel => exact ⟨k + 1, _, by omega, by go_num, by rw [HT.out, catS_snoc, HD.out]; rfl, hown3, hb3⟩
      case measure => simp [intOf]; omega
    · have e : ds.take k = ds := List.take_of_length_le (by rw [HND.out]; omega)
      rw [e] at hd
      subst hd
      go_wp2
      go_ret
      exact ⟨_, rfl, hod, hbw⟩

theorem Strs.new (w : World) (ds : List ByteArray) (cs : Array Value) (t : TypeId) (hcs : cs = (ds.map Value.string).toArray) : Strs (w.alloc (.cells cs t)) w.heap.size 0 ds := by
  subst hcs
  intro j s hj
  rw [cell_of_row _ w.heap.size _ _ _ (0, 0) (heap_alloc_new w _)]
  simp [hj]

set_option maxHeartbeats 1000000 in
theorem nodeB_any (x y : ByteArray) (w : World) (hx : x.size ≤ 100000000) (hy : y.size ≤ 100000000) :
    Calls Tryd.prog 111 #[.string x, .string y] w fun e w' => ∃ v, e = .returned v ∧ Own w' w.heap.size 5 v (nodeL x.data.toList y.data.toList) ∧ Below w.heap.size w w' := by
  go_enter Tryd.func111, Tryd.ntmps111
  go_wp2_with fail
  refine (mjoin_any 2 2 rfl _ _ _ [x, y] 2 rfl _ (Strs.new _ _ _ _ rfl) (by omega) (by simp [hx, hy])).mono ?_
  rintro e w1 ⟨v1, rfl, ho1, hb1⟩
  go_wp2
  go_ret
  refine ⟨_, rfl, ?_, Below.next' ((Below.refl _ _).alloc (Nat.le_refl _) _) hb1 (by simp)⟩
  have := ho1.mono (b := w.heap.size) (by simp)
  simpa [nodeL, catS] using this

set_option maxHeartbeats 1000000 in
theorem linkB_any (x y z : ByteArray) (w : World) (hx : x.size ≤ 100000000) (hy : y.size ≤ 100000000) (hz : z.size ≤ 100000000) :
    Calls Tryd.prog 112 #[.string x, .string y, .string z] w fun e w' => ∃ v, e = .returned v ∧ Own w' w.heap.size 5 v (linkL x.data.toList y.data.toList z.data.toList) ∧ Below w.heap.size w w' := by
  go_enter Tryd.func112, Tryd.ntmps112
  go_wp2_with fail
  refine (mjoin_any 3 3 rfl _ _ _ [x, y, z] 3 rfl _ (Strs.new _ _ _ _ rfl) (by omega) (by simp [hx, hy, hz])).mono ?_
  rintro e w1 ⟨v1, rfl, ho1, hb1⟩
  go_wp2
  go_ret
  refine ⟨_, rfl, ?_, Below.next' ((Below.refl _ _).alloc (Nat.le_refl _) _) hb1 (by simp)⟩
  have := ho1.mono (b := w.heap.size) (by simp)
  simpa [linkL, catS] using this

end Go.Proofs.YtpbjianhkjjgkaaDoor

namespace Go.Proofs.YtpbjianhkjjgkaaDoor
open Go.RowKit

theorem sha_size (l : List UInt8) : (ByteArray.mk (sha l).toArray).size = 32 := by
  show (sha l).toArray.size = 32
  rw [List.size_toArray, sha_length]
theorem sha_list (l : List UInt8) : (ByteArray.mk (sha l).toArray).data.toList = sha l := by simp

set_option maxHeartbeats 1000000 in
theorem empty_any (w : World) (ht : Tab w) :
    Calls Tryd.prog 66 #[] w fun e w' => e = .returned (.string ⟨(sha [0]).toArray⟩) ∧ Below w.heap.size w w' := by
  go_enter Tryd.func66, Tryd.ntmps66
  go_wp2_with fail
  have hb0 : Below w.heap.size w (w.alloc (.cells #[.int .u8 0] 5)) := (Below.refl _ _).alloc (Nat.le_refl _) _
  refine (sum_any _ _ _ [0] _ (Seg.one _ _ _ 0 rfl) (by omega) (Tab.below ht hb0)).mono ?_
  rintro e w1 ⟨rfl, hb1⟩
  go_wp2
  go_ret
  exact ⟨rfl, Below.next' hb0 hb1 hb0.size⟩

set_option maxHeartbeats 1000000 in
theorem rempty_any (w : World) :
    Calls Tryd.prog 67 #[] w fun e w' => e = .returned (.string ⟨(sha [0]).toArray⟩) ∧ Below w.heap.size w w' := by
  go_enter Tryd.func67, Tryd.ntmps67
  go_wp2_with fail
  have hb0 : Below w.heap.size w (w.alloc (.cells #[.int .u8 0] 5)) := (Below.refl _ _).alloc (Nat.le_refl _) _
  refine (rsum_any _ _ _ [0] _ (Seg.one _ _ _ 0 rfl) (by omega)).mono ?_
  rintro e w1 ⟨rfl, hb1⟩
  go_wp2
  go_ret
  exact ⟨rfl, Below.next' hb0 hb1 hb0.size⟩

set_option maxHeartbeats 1000000 in
theorem leaf_any (k : ByteArray) (A : Option Addr) (n c : Nat) (l : List UInt8) (w : World) (ha : Seg w A n l) (hk : k.size ≤ 100000000) (hn : n ≤ 100000000) (ht : Tab w) :
    Calls Tryd.prog 97 #[.string k, .slice A n c] w fun e w' => e = .returned (.string ⟨(sha (leafL k.data.toList l)).toArray⟩) ∧ Below w.heap.size w w' := by
  go_enter Tryd.func97, Tryd.ntmps97
  go_wp2_with fail
  refine (leafB_any k A n c l _ ha (by omega) (by omega)).mono ?_
  rintro e w1 ⟨v1, rfl, ho1, hb1⟩
  obtain ⟨A1, c1, rfl, hs1, hlc1, hcm1⟩ := ho1.forms
  clear ho1
  have hl : (leafL k.data.toList l).length ≤ 1099511627776 := by
    rw [leafL_length, ha.1]
    have : k.data.toList.length = k.size := by simp
    omega
  go_wp2_with fail
  refine (sum_any A1 _ c1 _ _ hs1 hl (Tab.below ht hb1)).mono ?_
  rintro e w2 ⟨rfl, hb2⟩
  go_wp2
  go_ret
  exact ⟨rfl, Below.next' hb1 hb2 hb1.size⟩

set_option maxHeartbeats 1000000 in
theorem node_any (x y : ByteArray) (w : World) (hx : x.size ≤ 100000000) (hy : y.size ≤ 100000000) (ht : Tab w) :
    Calls Tryd.prog 125 #[.string x, .string y] w fun e w' => e = .returned (.string ⟨(sha (nodeL x.data.toList y.data.toList)).toArray⟩) ∧ Below w.heap.size w w' := by
  go_enter Tryd.func125, Tryd.ntmps125
  go_wp2_with fail
  refine (nodeB_any x y _ hx hy).mono ?_
  rintro e w1 ⟨v1, rfl, ho1, hb1⟩
  obtain ⟨A1, c1, rfl, hs1, hlc1, hcm1⟩ := ho1.forms
  clear ho1
  have hl : (nodeL x.data.toList y.data.toList).length ≤ 1099511627776 := by
    rw [nodeL_length]
    have h1 : x.data.toList.length = x.size := by simp
    have h2 : y.data.toList.length = y.size := by simp
    omega
  go_wp2_with fail
  refine (sum_any A1 _ c1 _ _ hs1 hl (Tab.below ht hb1)).mono ?_
  rintro e w2 ⟨rfl, hb2⟩
  go_wp2
  go_ret
  exact ⟨rfl, Below.next' hb1 hb2 hb1.size⟩

end Go.Proofs.YtpbjianhkjjgkaaDoor

namespace Go.Proofs.YtpbjianhkjjgkaaDoor
open Go.RowKit

theorem bytesBelow (W : World) (e : TypeId) (s : ByteArray) : Below W.heap.size W (Lib.bytesWorld W e s) :=
  ⟨rfl, rfl, rfl, by rw [Lib.bytesWorld_size]; omega, fun k hk => Lib.bytesWorld_at_old W e s k hk⟩
theorem bytesSeg (W : World) (e : TypeId) (s : ByteArray) : Seg (Lib.bytesWorld W e s) (some ⟨W.heap.size, 0, none⟩) s.size s.data.toList := by
  refine ⟨by simp, fun _ => ⟨_, _, rfl, fun j b hb => ?_⟩⟩
  have hj : j < s.size := by
    have := (List.getElem?_eq_some_iff.1 hb).1
    simpa using this
  rw [Nat.zero_add, Lib.bytesWorld_cell W e s j hj, List.getD_eq_getElem?_getD, hb]
  rfl
theorem Seg.one' (w : World) (x : Int) (t : TypeId) (g : Nat) (b : UInt8) (hg : g = w.heap.size) (h : x = (b.toNat : Int)) : Seg (w.alloc (.cells #[.int .u8 x] t)) (some ⟨g, 0, none⟩) 1 [b] := by
  subst hg
  exact Seg.one w x t b h

set_option maxHeartbeats 4000000 in
theorem rleafB_any (k : ByteArray) (A : Option Addr) (n c : Nat) (l : List UInt8) (w : World) (ha : Seg w A n l) (hk : k.size ≤ 100000000) (hn : n ≤ 100000000) :
    Calls Tryd.prog 60 #[.string k, .slice A n c] w fun e w' => ∃ v, e = .returned v ∧ Own w' w.heap.size 5 v (leafL k.data.toList l) ∧ Below w.heap.size w w' := by
  have kcv := fun W => Lib.run_convert_string_bytes (P := Tryd.prog) W 9 29 5 k Tryd.underlying9 Tryd.underlying29 Tryd.underlying5
  have hwr : IntKind.u64.wrap (k.size : Int) = (k.size : Int) := IntWalk.u64_in _ (by omega)
  go_enter Tryd.func60, Tryd.ntmps60
  have HK := Lib.hid (show k.data.toList.length = k.size by simp)
  have hb0 : Below w.heap.size w (w.alloc (.cells #[.int .u8 1] 5)) := (Below.refl _ _).alloc (Nat.le_refl _) _
  go_wp2_with fail
  refine (num_call _ _ _ (by omega) (by omega) (by omega)).mono ?_
  rintro e w1 ⟨v1, rfl, ho1, hb1⟩
  have hp1 : Seg w1 (some ⟨w.heap.size, 0, none⟩) 1 [1] := (Seg.one w _ _ 1 rfl).below hb1
  have hbw1 : Below w.heap.size w w1 := Below.next' hb0 hb1 hb0.size
  obtain ⟨d1, hd1⟩ : ∃ d1, high ((k.size : Int)).toNat (4 : Int).toNat = d1 := ⟨_, rfl⟩
  rw [hd1] at ho1
  have HL1 := Lib.hid (show d1.length = 4 by rw [← hd1]; exact high_length _ _)
  have HD1 := Lib.hid hd1
  obtain ⟨A1, c1, rfl, hs1, _, _⟩ := ho1.forms
  clear ho1 hb1 hb0 hd1
  go_wp2_with fail
  refine (join_any _ A1 1 d1.length _ c1 [1] d1 _ hp1 hs1 (by have := HL1.out; omega)).mono ?_
  rintro e w2 ⟨v2, rfl, ho2, hb2⟩
  obtain ⟨d2, hd2⟩ : ∃ d2, [1] ++ d1 = d2 := ⟨_, rfl⟩
  rw [hd2] at ho2
  have HL2 := Lib.hid (show d2.length = 5 by rw [← hd2, List.length_append, HL1.out]; rfl)
  have HD2 := Lib.hid hd2
  obtain ⟨A2, c2, rfl, hs2, _, _⟩ := ho2.forms
  have hbw2 : Below w.heap.size w w2 := Below.next' hbw1 hb2 hbw1.size
  clear ho2 hb2 hd2 hp1 hs1 hbw1
  go_wp2_with fail
  refine (join_any A2 _ d2.length k.size c2 _ d2 k.data.toList _ (hs2.below (bytesBelow _ _ _)) (bytesSeg _ _ _) (by have := HL2.out; omega)).mono ?_
  rintro e w3 ⟨v3, rfl, ho3, hb3⟩
  obtain ⟨d3, hd3⟩ : ∃ d3, d2 ++ k.data.toList = d3 := ⟨_, rfl⟩
  rw [hd3] at ho3
  have HL3 := Lib.hid (show d3.length = 5 + k.size by rw [← hd3, List.length_append, HL2.out, HK.out])
  have HD3 := Lib.hid hd3
  obtain ⟨A3, c3, rfl, hs3, _, _⟩ := ho3.forms
  have hbw3 : Below w.heap.size w w3 := Below.next' hbw2 (Below.next (bytesBelow _ _ _) hb3) hbw2.size
  clear ho3 hb3 hd3 hs2 hbw2 kcv
  go_wp2_with fail
  refine (join_any A3 A d3.length n c3 c d3 l _ hs3 (ha.below hbw3) (by have := HL3.out; omega)).mono ?_
  rintro e w4 ⟨v4, rfl, ho4, hb4⟩
  go_wp2
  go_ret
  refine ⟨_, rfl, ?_, Below.next' hbw3 hb4 hbw3.size⟩
  have := ho4.mono (b := w.heap.size) hbw3.size
  rw [← HD3.out, ← HD2.out, ← HD1.out] at this
  unfold leafL
  rw [HK.out]
  exact this

theorem add_data (a b : ByteArray) : (a ++ b).data.toList = a.data.toList ++ b.data.toList := by simp

set_option maxHeartbeats 4000000 in
theorem rnodeB_any (x y : ByteArray) (w : World) (hx : x.size ≤ 100000000) (hy : y.size ≤ 100000000) :
    Calls Tryd.prog 36 #[.string x, .string y] w fun e w' => ∃ A c d, e = .returned (.slice A d.length c) ∧ Seg w' A d.length d ∧ d = nodeL x.data.toList y.data.toList ∧ Below w.heap.size w w' := by
  have a1 : ∀ W, (Op.stringOp .add ⟨#[2]⟩ x).run Tryd.prog W = .ok (.string (⟨#[2]⟩ ++ x)) W := fun W => run_string_add_sum (P := Tryd.prog) W ⟨#[2]⟩ x (by show 1 + x.size ≤ _; omega)
  obtain ⟨s1, hs1⟩ : ∃ s1 : ByteArray, ⟨#[2]⟩ ++ x = s1 := ⟨_, rfl⟩
  have hz1 : s1.size = 1 + x.size := by rw [← hs1, ByteArray.size_append]; rfl
  rw [hs1] at a1
  have a2 : ∀ W, (Op.stringOp .add s1 y).run Tryd.prog W = .ok (.string (s1 ++ y)) W := fun W => run_string_add_sum (P := Tryd.prog) W s1 y (by omega)
  obtain ⟨s2, hs2⟩ : ∃ s2 : ByteArray, s1 ++ y = s2 := ⟨_, rfl⟩
  rw [hs2] at a2
  have HD : Hid (s2.data.toList = nodeL x.data.toList y.data.toList) := Lib.hid (by rw [← hs2, ← hs1, add_data, add_data]; rfl)
  have HZ := Lib.hid (show s2.data.toList.length = s2.size by simp)
  clear hs1 hs2 hz1
  have kcv := fun W => Lib.run_convert_string_bytes (P := Tryd.prog) W 9 29 5 s2 Tryd.underlying9 Tryd.underlying29 Tryd.underlying5
  go_enter Tryd.func36, Tryd.ntmps36
  go_wp2
  go_ret
  refine ⟨some ⟨w.heap.size, 0, none⟩, grownCap w s2.size 0 5, s2.data.toList, ?_, ?_, HD.out, bytesBelow _ _ _⟩
  · rw [HZ.out]; rfl
  · rw [HZ.out]
    exact bytesSeg _ _ _

set_option maxHeartbeats 4000000 in
theorem rlinkB_any (x y z : ByteArray) (w : World) (hx : x.size ≤ 100000000) (hy : y.size ≤ 100000000) (hz : z.size ≤ 100000000) :
    Calls Tryd.prog 87 #[.string x, .string y, .string z] w fun e w' => ∃ A c d, e = .returned (.slice A d.length c) ∧ Seg w' A d.length d ∧ d = linkL x.data.toList y.data.toList z.data.toList ∧ Below w.heap.size w w' := by
  have a1 : ∀ W, (Op.stringOp .add ⟨#[3]⟩ x).run Tryd.prog W = .ok (.string (⟨#[3]⟩ ++ x)) W := fun W => run_string_add_sum (P := Tryd.prog) W ⟨#[3]⟩ x (by show 1 + x.size ≤ _; omega)
  obtain ⟨s1, hs1⟩ : ∃ s1 : ByteArray, ⟨#[3]⟩ ++ x = s1 := ⟨_, rfl⟩
  have hz1 : s1.size = 1 + x.size := by rw [← hs1, ByteArray.size_append]; rfl
  rw [hs1] at a1
  have a2 : ∀ W, (Op.stringOp .add s1 y).run Tryd.prog W = .ok (.string (s1 ++ y)) W := fun W => run_string_add_sum (P := Tryd.prog) W s1 y (by omega)
  obtain ⟨s2, hs2⟩ : ∃ s2 : ByteArray, s1 ++ y = s2 := ⟨_, rfl⟩
  have hz2 : s2.size = s1.size + y.size := by rw [← hs2, ByteArray.size_append]
  rw [hs2] at a2
  have a3 : ∀ W, (Op.stringOp .add s2 z).run Tryd.prog W = .ok (.string (s2 ++ z)) W := fun W => run_string_add_sum (P := Tryd.prog) W s2 z (by omega)
  obtain ⟨s3, hs3⟩ : ∃ s3 : ByteArray, s2 ++ z = s3 := ⟨_, rfl⟩
  rw [hs3] at a3
  have HD : Hid (s3.data.toList = linkL x.data.toList y.data.toList z.data.toList) := Lib.hid (by rw [← hs3, ← hs2, ← hs1, add_data, add_data, add_data]; rfl)
  have HZ := Lib.hid (show s3.data.toList.length = s3.size by simp)
  clear hs1 hs2 hs3 hz1 hz2
  have kcv := fun W => Lib.run_convert_string_bytes (P := Tryd.prog) W 9 29 5 s3 Tryd.underlying9 Tryd.underlying29 Tryd.underlying5
  go_enter Tryd.func87, Tryd.ntmps87
  go_wp2
  go_ret
  refine ⟨some ⟨w.heap.size, 0, none⟩, grownCap w s3.size 0 5, s3.data.toList, ?_, ?_, HD.out, bytesBelow _ _ _⟩
  · rw [HZ.out]; rfl
  · rw [HZ.out]
    exact bytesSeg _ _ _

end Go.Proofs.YtpbjianhkjjgkaaDoor
