/-
  The walks of Key and Split of tables, and of the law's examples.
-/
import Derived.Test.YtcmagjeplofagaaWT2
import Derived.Test.YtcmagjeplofagaaWK
namespace Go.Proofs.Ytcmagjeplofagaa
open Go.RowKit

/-- A key's text: a byte, the table, and the values in order. -/
def keyT (t : Nat) (l : List V) : ByteArray := ⟨(UInt8.ofNat t :: keyOf l).toArray⟩

set_option maxHeartbeats 400000 in
theorem tkey_any (t : Nat) (A : Option Addr) (n c : Nat) (l : List V) (w : World) (ht : t ≤ 255) (ha : SegV w A n l) (hn : n ≤ 1000) (hok : ∀ v ∈ l, v.Ok) :
    Calls Try.prog 22 #[.int .i64 (t : Int), .slice A n c] w fun e w' => e = .returned (.string (keyT t l)) ∧ Below w.heap.size w w' := by
  have ht' : (t : Int) ≤ 255 := by omega
  have hkl := keyOf_len l hok
  rw [ha.1] at hkl
  go_enter Try.func22, Try.ntmps22
  go_wp2_with fail
  refine (key_any A n c l _ (ha.alloc _) hn hok).mono ?_
  rintro e w1 ⟨r1, rfl, ho1, hb1⟩
  have hot : Own w1 w.heap.size 5 (.slice (some ⟨w.heap.size, 0, none⟩) 1 1) [UInt8.ofNat t] := (Own.one w w.heap.size 5 (t : Int) w.heap.size (UInt8.ofNat t) rfl (Nat.le_refl _) (by simp; omega)).below hb1
  have hbw1 : Below w.heap.size w w1 := Below.next' ((Below.refl _ _).alloc (Nat.le_refl _) _) hb1 (by simp)
  obtain ⟨A1, c1, rfl, hs1, hlc1, hcm1⟩ := ho1.forms
  clear ho1 hb1
  go_wp2_with (
    at_builtin
    refine wpList_append_seg _ rfl (.tmp 7) (.tmp 9) _ _ bt rfl w.heap.size _ [UInt8.ofNat t] rfl hot A1 _ c1 (keyOf l) rfl hs1 (by simp; omega) hbw1.size ?_
    intro v2 w2 ho2 hg2 _
    obtain ⟨K, hK⟩ : ∃ K, [UInt8.ofNat t] ++ keyOf l = K := ⟨_, rfl⟩
    rw [hK] at ho2
    have HK := Lib.hid hK
    clear hK
    obtain ⟨A2, c2, rfl, hs2, hlc2, hcm2⟩ := ho2.forms
    have kc := run_string_seg (P := Try.prog) w2 31 9 5 bt Try.underlying9 A2 _ c2 _ hs2)
  go_ret
  exact ⟨by unfold keyT; rw [← HK.out]; rfl, below_grown hbw1 hot hg2 (Nat.le_refl _) hbw1.size⟩

set_option maxHeartbeats 400000 in
theorem rtkey_any (t : Nat) (A : Option Addr) (n c : Nat) (l : List V) (w : World) (ht : t ≤ 255) (ha : SegV w A n l) (hn : n ≤ 1000) (hok : ∀ v ∈ l, v.Ok) :
    Calls Try.prog 24 #[.int .i64 (t : Int), .slice A n c] w fun e w' => e = .returned (.string (keyT t l)) ∧ Below w.heap.size w w' := by
  have ht' : (t : Int) ≤ 255 := by omega
  have hkl := keyOf_len l hok
  rw [ha.1] at hkl
  go_enter Try.func24, Try.ntmps24
  go_wp2_with fail
  refine (rkey_any A n c l _ (ha.alloc _) hn hok).mono ?_
  rintro e w1 ⟨r1, rfl, ho1, hb1⟩
  have hst : Seg w1 (some ⟨w.heap.size, 0, none⟩) 1 [UInt8.ofNat t] := (Seg.one w (t : Int) 5 (UInt8.ofNat t) (by simp; omega)).below hb1
  have hbw1 : Below w.heap.size w w1 := Below.next' ((Below.refl _ _).alloc (Nat.le_refl _) _) hb1 (by simp)
  obtain ⟨A1, c1, rfl, hs1, hlc1, hcm1⟩ := ho1.forms
  clear ho1 hb1
  go_wp2_with fail
  refine (join_any _ A1 1 _ 1 c1 [UInt8.ofNat t] (keyOf l) _ hst hs1 (by omega)).mono ?_
  rintro e w2 ⟨r2, rfl, ho2, hb2⟩
  obtain ⟨K, hK⟩ : ∃ K, [UInt8.ofNat t] ++ keyOf l = K := ⟨_, rfl⟩
  rw [hK] at ho2
  have HK := Lib.hid hK
  clear hK
  obtain ⟨A2, c2, rfl, hs2, hlc2, hcm2⟩ := ho2.forms
  have kc := run_string_seg (P := Try.prog) w2 31 9 5 bt Try.underlying9 A2 _ c2 _ hs2
  go_wp2
  go_ret
  exact ⟨by unfold keyT; rw [← HK.out]; rfl, Below.next' hbw1 hb2 hbw1.size⟩

theorem keyT_ex : keyT 1 [⟨1, 0, ⟨#[]⟩⟩] = ⟨#[1, 2, 128, 0, 0, 0, 0, 0, 0, 0]⟩ := by decide

theorem noughtsB : (((⟨#[1, 2, 128, 0, 0, 0, 0, 0, 0, 0]⟩ : ByteArray).extract 0 3).toList == [1, 2, 128]) = true := by rw [ByteArray.toList_eq]; decide

set_option maxHeartbeats 1000000 in
theorem tnoughts_any (w : World) : Calls Try.prog 10 #[] w fun e w' => e = .returned (.bool true) ∧ Below w.heap.size w w' := by
  go_enter Try.func10, Try.ntmps10
  go_wp2_with fail
  refine (tkey_any 1 _ 1 1 [⟨1, 0, ⟨#[]⟩⟩] _ (by omega) (SegV.newAt _ _ _ _ _ _ rfl rfl rfl) (by omega) (by intro v hv; simp at hv; subst hv; right; left; exact ⟨rfl, rfl, by decide, by decide⟩)).mono ?_
  rintro e w1 ⟨rfl, hb1⟩
  rw [keyT_ex]
  have hbw1 : Below w.heap.size w w1 := Below.next' ((Below.refl _ _).alloc (Nat.le_refl _) _) hb1 (by simp)
  clear hb1
  go_wp2_with fail
  refine (pack_any none 0 0 [] _ (SegV.nil _ _) (by omega) (by simp)).mono ?_
  rintro e w2 ⟨r2, rfl, ho2, hb2⟩
  have hbw2 : Below w.heap.size w w2 := Below.next' hbw1 hb2 hbw1.size
  have hp : packL [] = [0] := rfl
  rw [hp] at ho2
  obtain ⟨A2, c2, rfl, hs2, hlc2, hcm2⟩ := ho2.forms
  clear ho2 hb2 hp
  go_wp2_with fail
  refine (bytes_yes A2 _ 1 1 c2 1 [0] _ (hs2.alloc _) (Seg.one' _ _ _ _ 0 rfl rfl) (by decide)).mono ?_
  rintro e w3 ⟨rfl, hb3⟩
  go_wp2
  go_ret
  refine ⟨?_, Below.next' (hbw2.alloc hbw2.size _) hb3 (by have := hbw2.size; simp; omega)⟩
  exact ret_bool noughtsB

def splitL : List UInt8 → Int × List V × Int
  | [] => (0, [], 3)
  | b :: p => match back p with
    | none => (0, [], 2)
    | some l => ((b.toNat : Int), l, 0)
def SplitP (w : World) (l : List UInt8) (e : Ending) (w' : World) : Prop :=
  ∃ v, e = .returned (.tuple #[.int .i64 (splitL l).1, v, .int .i64 (splitL l).2.2]) ∧ OwnV w' w.heap.size 41 v (splitL l).2.1 ∧ Below w.heap.size w w'

theorem wrap_byte (b : UInt8) : wrap64 (b.toNat : Int) = (b.toNat : Int) := by
  have := byte_lt b
  rw [i64Z_eq b.toNat (by omega)]
  unfold i64Z
  rw [if_pos (by omega)]
theorem SplitP.ret {a b : Int} {v x : Value} (h : a = b) : Ending.returned (.tuple #[.int .i64 a, v, x]) = .returned (.tuple #[.int .i64 b, v, x]) := by rw [h]

set_option maxHeartbeats 400000 in
theorem split_any (s : ByteArray) (w : World) (hs : s.size ≤ 1000000) :
    Calls Try.prog 23 #[.string s] w (SplitP w s.data.toList) := by
  rcases hl : s.data.toList with _ | ⟨b, p⟩
  · obtain rfl : s = ⟨#[]⟩ := by
      have : s.data = #[] := by simpa using hl
      cases s
      simp_all
    go_enter Try.func23, Try.ntmps23
    go_wp2
    go_ret3
    exact ⟨_, rfl, OwnV.nil _ _ _, Below.refl _ _⟩
  · have kcv := fun W => Lib.run_convert_string_bytes (P := Try.prog) W 9 31 5 (s.extract 1 s.size) Try.underlying9 Try.underlying31 Try.underlying5
    have hsz : s.size = p.length + 1 := by
      have : s.data.toList.length = s.size := by simp
      rw [hl, List.length_cons] at this
      omega
    have hz1 : (1 : Int) ≤ (s.size : Int) := by omega
    have hz0 : s.toList.isEmpty = false := by rw [toList_isEmpty]; exact decide_eq_false (by omega)
    have hex : (s.extract 1 s.size).data.toList = p := by
      rw [ByteArray.data_extract, Array.toList_extract, hl, hsz]
      simp [List.extract]
    have hz : 0 < s.size := by omega
    have hb0 : s[0] = b := by
      have e : s.data[0]'(by simpa using hz) = (s.data.toList)[0]'(by simpa using hz) := rfl
      show s.data[0]'(by simpa using hz) = b
      rw [e]
      simp [hl]
    have HSZ := Lib.hid hsz
    have HEX := Lib.hid hex
    have HL := Lib.hid hl
    have HB := Lib.hid hb0
    clear hsz hex hl hb0
    go_enter Try.func23, Try.ntmps23
    go_wp2_with fail
    have hsp := bytesSeg w 5 (s.extract 1 s.size)
    rw [HEX.out] at hsp
    have hbB := bytesBelow w 5 (s.extract 1 s.size)
    generalize Lib.bytesWorld w 5 (s.extract 1 s.size) = W at *
    have he1 : (s.extract 1 s.size).size = s.size - 1 := by simp
    rw [he1] at hsp
    refine (back_any _ (s.size - 1) _ p W hsp (grownCap_ge _ _ _ _) (grownCap_le_maxLen _ _ _ _ (by unfold maxLen; omega)) (by omega)).mono ?_
    rintro e w2 ⟨r2, rfl, ho2, hb2⟩
    have hbw2 : Below w.heap.size w w2 := Below.next' hbB hb2 hbB.size
    rcases hbk : back p with _ | L
    · have e : splitL (b :: p) = (0, [], 2) := by simp only [splitL]; rw [hbk]
      have HE := Lib.hid e
      clear e hbk
      go_wp2
      go_ret3
      exact ⟨_, by rw [HE.out]; rfl, by rw [HE.out]; exact OwnV.nil _ _ _, hbw2⟩
    · have e : splitL (b :: p) = ((b.toNat : Int), L, 0) := by simp only [splitL]; rw [hbk]
      have HE := Lib.hid e
      rw [hbk] at ho2
      simp only [Option.getD_some] at ho2
      clear e hbk
      go_wp2
      go_ret3
      refine ⟨_, by rw [HE.out]; exact SplitP.ret (by rw [HB.out]; exact wrap_byte b), by rw [HE.out]; exact ho2.mono hbB.size, hbw2⟩

end Go.Proofs.Ytcmagjeplofagaa
