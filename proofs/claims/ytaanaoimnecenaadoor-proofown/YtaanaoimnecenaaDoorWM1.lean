/-
  The walks of the program's LeafBytes, join, NodeBytes and LinkBytes.
-/
import Derived.Test.YtaanaoimnecenaaDoorW1
import Derived.Test.YtaanaoimnecenaaDoorPureM
namespace Go.Proofs.YtaanaoimnecenaaDoor
open Go.RowKit

theorem Seg.five (w : World) (x3 x2 x1 x0 : Int) (t : TypeId) (n g : Nat) (hg : g = w.heap.size) (h3 : x3 = ((UInt8.ofNat (n / 2 ^ (8 * 3))).toNat : Int)) (h2 : x2 = ((UInt8.ofNat (n / 2 ^ (8 * 2))).toNat : Int))
    (h1 : x1 = ((UInt8.ofNat (n / 2 ^ (8 * 1))).toNat : Int)) (h0 : x0 = ((UInt8.ofNat (n / 2 ^ (8 * 0))).toNat : Int)) :
    Seg (w.alloc (.cells #[.int .u8 1, .int .u8 x3, .int .u8 x2, .int .u8 x1, .int .u8 x0] t)) (some ⟨g, 0, none⟩) 5 ([1] ++ high n 4) := by
  subst hg h3 h2 h1 h0
  exact Seg.newAt _ _ _ _ _ _ rfl rfl rfl
theorem nat_bytes (n : Nat) : (n : Int) / 16777216 % 256 = ((UInt8.ofNat (n / 2 ^ (8 * 3))).toNat : Int) ∧ (n : Int) / 65536 % 256 = ((UInt8.ofNat (n / 2 ^ (8 * 2))).toNat : Int) ∧ (n : Int) / 256 % 256 = ((UInt8.ofNat (n / 2 ^ (8 * 1))).toNat : Int) ∧ (n : Int) % 256 = ((UInt8.ofNat (n / 2 ^ (8 * 0))).toNat : Int) := by
  have b3 := high_byte n 3
  have b2 := high_byte n 2
  have b1 := high_byte n 1
  have b0 := high_byte n 0
  rw [show ((2 : Int) ^ (8 * 3)) = 16777216 from by decide] at b3
  rw [show ((2 : Int) ^ (8 * 2)) = 65536 from by decide] at b2
  rw [show ((2 : Int) ^ (8 * 1)) = 256 from by decide] at b1
  rw [show ((2 : Int) ^ (8 * 0)) = 1 from by decide, Int.ediv_one] at b0
  exact ⟨b3, b2, b1, b0⟩

set_option maxHeartbeats 1000000 in
theorem leafB_any (k : ByteArray) (A : Option Addr) (n c : Nat) (l : List UInt8) (w : World) (ha : Seg w A n l) (hk : k.size ≤ 1000000000) (hn : n ≤ 1000000000) :
    Calls Tryd.prog 109 #[.string k, .slice A n c] w fun e w' => ∃ v, e = .returned v ∧ Own w' w.heap.size 5 v (leafL k.data.toList l) ∧ Below w.heap.size w w' := by
  go_enter Tryd.func109, Tryd.ntmps109
  obtain ⟨i, hi, hz0, hz1, hz2⟩ := info_parts bt.hi
  have hwr : IntKind.u32.wrap (k.size : Int) = (k.size : Int) := IntWalk.u32_in _ (by omega)
  have HE := Lib.hid (nat_bytes k.size)
  have HE3 := Lib.hid (show (k.size : Int) / 16777216 = ((UInt8.ofNat (k.size / 2 ^ (8 * 3))).toNat : Int) by rw [← (nat_bytes k.size).1]; omega)
  have H5 := Lib.hid (show ([1] ++ high k.size 4).length = 5 by rw [List.length_append, high_length]; rfl)
  have HK := Lib.hid (show k.data.toList.length = k.size by simp)
  go_wp2_with (first
    | (at_make
       refine wpList_make_own _ rfl (.const (.int .i64 0)) (.tmp 15) _ rfl w.heap.size 5 i _ 1 bt.ht hi hz0 hz1 .i64 .i64 _ (5 + k.size + n) rfl rfl (by omega) (by rw [hz2]; omega) (by simp only [maxLen]; omega) (Nat.le_refl _) ?_
       intro w1 ho1 hg1
       have ho : Own w1 w.heap.size 5 (.slice (some ⟨w.heap.size, 0, none⟩) 0 (5 + k.size + n)) [] := ho1
       have hb1 : Below w.heap.size w w1 := (Below.refl _ _).grown hg1 (Nat.le_refl _) (by intro k hk; cases hk)
       clear ho1 hg1 hi hz0 hz1 hz2 i
       have hsz1 := hb1.size)
    | (at_builtin
       refine wpList_append_seg _ rfl (.tmp 17) (.tmp 29) _ _ bt rfl w.heap.size (.slice (some ⟨w.heap.size, 0, none⟩) 0 (5 + k.size + n)) [] rfl (Own.alloc ho _) _ 5 5 ([1] ++ high k.size 4) rfl (Seg.five _ _ _ _ _ _ _ _ rfl HE3.out HE.out.2.1 HE.out.2.2.1 HE.out.2.2.2) (by simp) (by simp; omega) ?_
       intro v2 w2 hown2 hg2 _
       have hb2 : Below w.heap.size w w2 := below_grown (hb1.alloc hsz1 _) (Own.alloc ho _) hg2 (Nat.le_refl _) (by simp; omega)
       clear hg2)
    | (at_builtin
       refine wpList_append_str _ rfl (.tmp 31) (.tmp 32) _ _ _ bt Tryd.underlying9 rfl w.heap.size v2 _ rfl hown2 k rfl (by rw [List.nil_append, H5.out]; omega) hb2.size ?_
       intro v3 w3 hown3 hg3
       have hb3 : Below w.heap.size w w3 := below_grown hb2 hown2 hg3 (Nat.le_refl _) hb2.size
       clear hg3)
    | (at_builtin
       refine wpList_append_seg _ rfl (.tmp 34) (.tmp 35) _ _ bt rfl w.heap.size v3 _ rfl hown3 A n c l rfl (ha.below hb3) (by rw [List.length_append, List.nil_append, H5.out, HK.out]; omega) hb3.size ?_
       intro v4 w4 hown4 hg4 _
       have hb4 : Below w.heap.size w w4 := below_grown hb3 hown3 hg4 (Nat.le_refl _) hb3.size
       clear hg4))
  go_ret
  refine ⟨v4, rfl, ?_, hb4⟩
  unfold leafL
  rw [HK.out]
  simpa using hown4

/-- Texts that lie one behind the other in memory. -/
def Strs (w : World) (g o : Nat) (ds : List ByteArray) : Prop := ∀ j s, ds[j]? = some s → w.cell? ⟨g, o + j, none⟩ = some (.string s)
def catS (ds : List ByteArray) : List UInt8 := ds.flatMap fun s => s.data.toList
theorem catS_snoc (ds : List ByteArray) (s : ByteArray) : catS (ds ++ [s]) = catS ds ++ s.data.toList := by
  unfold catS
  rw [List.flatMap_append, List.flatMap_cons, List.flatMap_nil, List.append_nil]
theorem catS_len (ds : List ByteArray) (h : ∀ s ∈ ds, s.size ≤ 100000000) : (catS ds).length ≤ 100000000 * ds.length := by
  induction ds with
  | nil => exact Nat.le_refl _
  | cons s ds ih =>
    have h1 := ih fun t ht => h t (List.mem_cons_of_mem _ ht)
    have h2 := h s (List.mem_cons_self ..)
    show (s.data.toList ++ catS ds).length ≤ _
    rw [List.length_append, List.length_cons]
    have : s.data.toList.length = s.size := by simp
    omega

set_option maxHeartbeats 1000000 in
theorem mjoin_any (x : Int) (b : UInt8) (hx : x = (b.toNat : Int)) (g o c : Nat) (ds : List ByteArray) (n : Nat) (hnd : ds.length = n) (w : World) (hs : Strs w g o ds) (hn : n ≤ 1000) (hsz : ∀ s ∈ ds, s.size ≤ 100000000) :
    Calls Tryd.prog 122 #[.int .u8 x, .slice (some ⟨g, o, none⟩) n c] w fun e w' => ∃ v, e = .returned v ∧ Own w' w.heap.size 5 v (b :: catS ds) ∧ Below w.heap.size w w' := by
  have HX := Lib.hid hx
  have HND := Lib.hid hnd
  clear hx hnd
  go_enter Tryd.func122, Tryd.ntmps122
  obtain ⟨i, hi, hz0, hz1, hz2⟩ := info_parts bt.hi
  go_wp2_with (first
    | (at_make
       refine wpList_make_own _ rfl (.const (.int .i64 0)) (.tmp 11) _ rfl w.heap.size 5 i _ 1 bt.ht hi hz0 hz1 .i64 .i64 _ (1 + n * 32) rfl rfl (by omega) (by rw [hz2]; omega) (by simp only [maxLen]; omega) (Nat.le_refl _) ?_
       intro w1 ho1 hg1
       have ho : Own w1 w.heap.size 5 (.slice (some ⟨w.heap.size, 0, none⟩) 0 (1 + n * 32)) [] := ho1
       have hb1 : Below w.heap.size w w1 := (Below.refl _ _).grown hg1 (Nat.le_refl _) (by intro k hk; cases hk)
       clear ho1 hg1 hi hz0 hz1 hz2 i
       have hsz1 := hb1.size)
    | (at_builtin
       refine wpList_append_seg _ rfl (.tmp 13) (.tmp 15) _ _ bt rfl w.heap.size (.slice (some ⟨w.heap.size, 0, none⟩) 0 (1 + n * 32)) [] rfl (Own.alloc ho _) _ 1 1 [b] rfl (Seg.one _ _ _ _ HX.out) (by simp) (by simp; omega) ?_
       intro v2 w2 hown2 hg2 _
       have hb2 : Below w.heap.size w w2 := below_grown (hb1.alloc hsz1 _) (Own.alloc ho _) hg2 (Nat.le_refl _) (by simp; omega)
       clear hg2))
  clear ho hb1 hsz1
  go_loopw [5, 7, 19] (fun p _ i w' => ∃ (k : Nat) (d : List UInt8), k ≤ n ∧ i = .int .i64 k ∧ d = b :: catS (ds.take k) ∧ Own w' w.heap.size 5 p d ∧ Below w.heap.size w w') (fun _ _ i _ => n - (intOf i).toNat)
  case atStart => exact ⟨0, [b], by omega, rfl, rfl, hown2, hb2⟩
  case round =>
    clear hown2 hb2
    obtain ⟨k, d, hk, rfl, hd, hod, hbw⟩ := hrel
    by_cases hlt : k < n
    · have hkd : k < ds.length := by rw [HND.out]; exact hlt
      have hc := cell_below hbw (hs k _ (List.getElem?_eq_getElem hkd))
      have HT := Lib.hid (show ds.take (k + 1) = ds.take k ++ [ds[k]] from List.take_succ_eq_append_getElem hkd)
      have hz : (ds[k]).size ≤ 100000000 := hsz _ (List.getElem_mem _)
      have hdl : d.length ≤ 1 + 100000000 * k := by
        rw [hd, List.length_cons]
        have := catS_len (ds.take k) fun s h => hsz s (List.mem_of_mem_take h)
        have h2 : (ds.take k).length = k := by rw [List.length_take]; omega
        rw [h2] at this
        omega
      have HD := Lib.hid hd
      clear hd
      generalize ds[k] = s at *
      clear hkd
      go_wp2_with (first | (
         at_builtin
         refine wpList_append_str _ rfl (.tmp 23) (.tmp 24) _ _ _ bt Tryd.underlying9 rfl w.heap.size _ d rfl hod s rfl (by omega) hbw.size ?_
         intro v3 w3 hown3 hg3
         have hb3 : Below w.heap.size w w3 := below_grown hbw hod hg3 (Nat.le_refl _) hbw.size
         clear hg3))
      go_roundw
      case rel => exact ⟨k + 1, _, by omega, by go_num, by rw [HT.out, catS_snoc, HD.out]; rfl, hown3, hb3⟩
      case measure => simp [intOf]; omega
    · have e : ds.take k = ds := List.take_of_length_le (by rw [HND.out]; omega)
      rw [e] at hd
      subst hd
      go_wp2
      go_ret
      exact ⟨_, rfl, hod, hbw⟩

theorem Strs.new (w : World) (ds : List ByteArray) (cs : Array Value) (t : TypeId) (hcs : cs = (ds.map Value.string).toArray) : Strs (w.alloc (.cells cs t)) w.heap.size 0 ds := by
  subst hcs
  intro j s hj
  rw [cell_of_row _ w.heap.size _ _ _ (0, 0) (heap_alloc_new w _)]
  simp [hj]

set_option maxHeartbeats 1000000 in
theorem nodeB_any (x y : ByteArray) (w : World) (hx : x.size ≤ 100000000) (hy : y.size ≤ 100000000) :
    Calls Tryd.prog 118 #[.string x, .string y] w fun e w' => ∃ v, e = .returned v ∧ Own w' w.heap.size 5 v (nodeL x.data.toList y.data.toList) ∧ Below w.heap.size w w' := by
  go_enter Tryd.func118, Tryd.ntmps118
  go_wp2_with fail
  refine (mjoin_any 2 2 rfl _ _ _ [x, y] 2 rfl _ (Strs.new _ _ _ _ rfl) (by omega) (by simp [hx, hy])).mono ?_
  rintro e w1 ⟨v1, rfl, ho1, hb1⟩
  go_wp2
  go_ret
  refine ⟨_, rfl, ?_, Below.next' ((Below.refl _ _).alloc (Nat.le_refl _) _) hb1 (by simp)⟩
  have := ho1.mono (b := w.heap.size) (by simp)
  simpa [nodeL, catS] using this

end Go.Proofs.YtaanaoimnecenaaDoor
