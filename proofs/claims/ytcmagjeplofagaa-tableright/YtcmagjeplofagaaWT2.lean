/-
  The walks of Unpack: the program's and the document's.
-/
import Derived.Test.YtcmagjeplofagaaWT1
import Derived.Test.YtcmagjeplofagaaWB2
namespace Go.Proofs.Ytcmagjeplofagaa
open Go.RowKit

def UnpP (w : World) (l : List UInt8) (e : Ending) (w' : World) : Prop :=
  ∃ v, e = .returned (.tuple #[v, .int .i64 (unpackL l).2]) ∧ OwnV w' w.heap.size 41 v (unpackL l).1 ∧ Below w.heap.size w w'
theorem UnpP.err {w w' : World} {l : List UInt8} {x : Int} (h : unpackL l = ([], x)) (hb : Below w.heap.size w w') : UnpP w l (.returned (.tuple #[.slice none 0 0, .int .i64 x])) w' :=
  ⟨_, by rw [h], by rw [h]; exact OwnV.nil _ _ _, hb⟩

theorem far_apart {u v : Value} {B : Nat} (h1 : ∀ k, v.ownBlock = some k → B ≤ k) (h2 : ∀ k, u.ownBlock = some k → k < B) : v.ownBlock = none ∨ v.ownBlock ≠ u.ownBlock := by
  rcases hv : v.ownBlock with _ | k
  · exact .inl rfl
  · refine .inr fun e => ?_
    have a := h1 k hv
    have b := h2 k e.symm
    omega

set_option maxHeartbeats 1000000 in
theorem unpack_any (A : Option Addr) (n c : Nat) (l : List UInt8) (w : World) (ha : Seg w A n l) (hnc : n ≤ c) (hcm : c ≤ maxLen) (hn : n ≤ 1000000) :
    Calls Try.prog 29 #[.slice A n c] w (UnpP w l) := by
  rcases l with _ | ⟨b, r⟩
  · obtain rfl : n = 0 := ha.1.symm
    go_enter Try.func29, Try.ntmps29
    go_wp2
    go_ret2
    exact UnpP.err rfl (Below.refl _ _)
  · have hl := ha.1
    rw [List.length_cons] at hl
    have h0n : 0 < n := by omega
    have hp : (0 : Int) < (n : Int) := by omega
    have h1n : (1 : Int) ≤ (n : Int) := by omega
    have hz : ((n : Int) == 0) = false := by simp; omega
    obtain ⟨g, o, rfl, hc⟩ := ha.at_ (k := 0) (by omega)
    rw [Nat.add_zero] at hc
    simp only [List.getElem_cons_zero] at hc
    obtain ⟨A1, hA1, hseg1⟩ : ∃ A1, (if c = 1 then some (⟨g, o, none⟩ : Addr) else some ⟨g, o + 1, none⟩) = A1 ∧ Seg w A1 (n - 1) r := ⟨_, rfl, ha.from_ 1 c (by omega) hnc⟩
    have HL := Lib.hid hl
    clear hl
    have hcm2 := hcm
    unfold maxLen at hcm2
    have hb256 := byte_lt b
    go_enter Try.func29, Try.ntmps29
    go_wp2
    go_loopw [4, 5, 18] (fun p q i w' => ∃ (k : Nat) (d : List V) (A' : Option Addr) (n' c' : Nat) (rest : List UInt8), k ≤ b.toNat ∧ i = .int .i64 k ∧ d.length = k ∧ OwnV w' w.heap.size 41 p d ∧ q = .slice A' n' c' ∧ Seg w' A' n' rest ∧ n' ≤ c' ∧ c' ≤ maxLen ∧ n' ≤ 1000000 ∧ unpA [] b.toNat r = unpA d (b.toNat - k) rest ∧ Below w.heap.size w w') (fun _ _ i _ => b.toNat - (intOf i).toNat)
    case atStart => exact ⟨0, [], A1, n - 1, c - 1, r, Nat.zero_le _, rfl, rfl, OwnV.nil _ _ _, by rw [← hA1], hseg1, by omega, by unfold maxLen; omega, by omega, rfl, Below.refl _ _⟩
    case round =>
      obtain ⟨k, d, A', n', c', rest, hk, rfl, hdk, hod, rfl, hs', hnc', hcm', hn', hu, hbw⟩ := hrel
      have hdl : d.length ≤ 255 := by omega
      have HDK := Lib.hid hdk
      have HU := Lib.hid hu
      clear hdk hu
      obtain ⟨Ad, cd, rfl, hsd, hlcd, hcmd⟩ := hod.forms
      by_cases hlt : k < b.toNat
      · obtain ⟨j, hj⟩ : ∃ j, b.toNat - k = j + 1 := ⟨b.toNat - k - 1, by omega⟩
        have hj' : b.toNat - (k + 1) = j := by omega
        rw [hj] at HU
        have HJ := Lib.hid hj'
        clear hj hj'
        have hlt' : (k : Int) < (b.toNat : Int) := by omega
        rcases hD : dec rest with ⟨v, m, x⟩
        have hv22 : (dec rest).2.2 = x := by rw [hD]
        by_cases hx : x = 0
        · subst hx
          have e : unpA d (j + 1) rest = unpA (d ++ [v]) j (rest.drop m) := by rw [unpA_go _ _ _ hv22, hD]
          have HE := Lib.hid e
          clear e hv22
          go_wp2_with fail
          refine (decode_ok A' n' c' rest v m _ hs' hnc' hcm' (by omega) hD).mono ?_
          rintro e w2 ⟨r2, rfl, ho2, hb2⟩
          have hbw2 : Below w.heap.size w w2 := Below.next' hbw hb2 hbw.size
          have hod2 := hod.below hb2
          have hrl : (rest.drop m).length ≤ n' := by rw [List.length_drop, hs'.1]; omega
          obtain ⟨R, hR⟩ : ∃ R, rest.drop m = R := ⟨_, rfl⟩
          rw [hR] at ho2 hrl HE
          obtain ⟨A2, c2, rfl, hs2, hlc2, hcm2'⟩ := ho2.forms
          have hfar := far_apart (fun k hk => (ho2.lt k hk).1) (fun k hk => (hod.lt k hk).2)
          clear hb2 hod hR hD
          go_wp2_with (
               at_builtin
               refine wpList_append_vals _ rfl (.tmp 29) (.tmp 31) _ _ vt rfl w.heap.size _ d rfl ((hod2.alloc _).alloc _) _ 1 1 [v] rfl (SegV.newAt _ _ _ _ _ _ (by simp) rfl rfl) (by omega) (by have := hbw2.size; simp; omega) ?_
               intro v3 w3 ho3 hg3 _
               obtain ⟨d3, hd3⟩ : ∃ d3, d ++ [v] = d3 := ⟨_, rfl⟩
               have hl3 : d3.length = d.length + 1 := by rw [← hd3]; simp
               have hbw3 := below_grownV ((hbw2.alloc hbw2.size _).alloc (by have := hbw2.size; simp; omega) _) ((hod2.alloc _).alloc _) hg3 (Nat.le_refl _) (by have := hbw2.size; simp; omega)
               obtain ⟨A4, c4, e4, hs4, hlc4, hcm4⟩ := (((ho2.alloc _).alloc _).kept hg3 hfar).forms
               injection e4 with e4 _ e5
               subst e4 e5
               rw [hd3] at ho3
               have HD3 := Lib.hid hd3
               have HL3 := Lib.hid hl3
               clear hd3 hg3 hl3
               obtain ⟨A3, c3, rfl, hs3, hlc3, hcm4⟩ := ho3.forms)
          go_roundw
          case rel =>
            exact ⟨k + 1, d3, A2, R.length, c2, R, hlt, by go_num, by rw [HL3.out, HDK.out], ho3, rfl, hs4, hlc2, hcm2', by omega, by rw [HU.out, HE.out, HD3.out, HJ.out], hbw3⟩
          case measure => simp [intOf]; omega
        · have e : unpA d (j + 1) rest = ([], x) := by rw [unpA_err _ _ _ (by rw [hv22]; exact hx), hv22]
          have hxb : (x != 0) = true := by simpa using hx
          have HE := Lib.hid e
          clear e hv22
          go_wp2_with fail
          refine (decode_err A' n' c' rest v m x _ hs' hnc' hcm' (by omega) hD hx).mono ?_
          rintro e w2 ⟨r2, rfl, ho2, hb2⟩
          have hbw2 : Below w.heap.size w w2 := Below.next' hbw hb2 hbw.size
          obtain ⟨A2, c2, rfl, hs2, hlc2, hcm2'⟩ := ho2.forms
          clear hb2 ho2 hod hD
          go_wp2
          go_ret2
          exact UnpP.err (by show unpA [] b.toNat r = _; rw [HU.out, HE.out]) (hbw2.alloc hbw2.size _)
      · have hk0 : b.toNat - k = 0 := by omega
        rw [hk0] at HU
        clear hk0
        have hge : (b.toNat : Int) ≤ (k : Int) := by omega
        by_cases hn0 : n' = 0
        · subst hn0
          go_wp2
          go_ret2
          have e : unpackL (b :: r) = (d, 0) := by show unpA [] b.toNat r = _; rw [HU.out, unpA_end _ _ hs'.1]
          exact ⟨_, by rw [e]; rfl, by rw [e]; exact hod, hbw⟩
        · have hn1 : (0 : Int) < (n' : Int) := by omega
          go_wp2
          go_ret2
          exact UnpP.err (by show unpA [] b.toNat r = _; rw [HU.out, unpA_more _ _ (by rw [hs'.1]; exact hn0)]) hbw

set_option maxHeartbeats 1000000 in
theorem runpack_any (A : Option Addr) (n c : Nat) (l : List UInt8) (w : World) (ha : Seg w A n l) (hnc : n ≤ c) (hcm : c ≤ maxLen) (hn : n ≤ 1000000) :
    Calls Try.prog 30 #[.slice A n c] w (UnpP w l) := by
  rcases l with _ | ⟨b, r⟩
  · obtain rfl : n = 0 := ha.1.symm
    go_enter Try.func30, Try.ntmps30
    go_wp2
    go_ret2
    exact UnpP.err rfl (Below.refl _ _)
  · have hl := ha.1
    rw [List.length_cons] at hl
    have h0n : 0 < n := by omega
    have hp : (0 : Int) < (n : Int) := by omega
    have h1n : (1 : Int) ≤ (n : Int) := by omega
    obtain ⟨g, o, rfl, hc⟩ := ha.at_ (k := 0) (by omega)
    rw [Nat.add_zero] at hc
    simp only [List.getElem_cons_zero] at hc
    have hcm2 := hcm
    unfold maxLen at hcm2
    have hb256 := byte_lt b
    have hll : (b :: r).length = n := by rw [List.length_cons]; exact hl
    have HL := Lib.hid hl
    have HLL := Lib.hid hll
    clear hl hll
    go_enter Try.func30, Try.ntmps30
    go_wp2
    go_loopw [4, 5, 6] (fun p q i w' => ∃ (k a : Nat) (d : List V), k ≤ b.toNat ∧ i = .int .i64 k ∧ d.length = k ∧ OwnV w' w.heap.size 41 p d ∧ q = .int .i64 a ∧ a ≤ n ∧ unpA [] b.toNat r = unpA d (b.toNat - k) ((b :: r).drop a) ∧ Below w.heap.size w w') (fun _ _ i _ => b.toNat - (intOf i).toNat)
    case atStart => exact ⟨0, 1, [], Nat.zero_le _, rfl, rfl, OwnV.nil _ _ _, rfl, h0n, rfl, Below.refl _ _⟩
    case round =>
      obtain ⟨k, a, d, hk, rfl, hdk, hod, rfl, han, hu, hbw⟩ := hrel
      have hdl : d.length ≤ 255 := by omega
      have HDK := Lib.hid hdk
      have HU := Lib.hid hu
      clear hdk hu
      obtain ⟨Ad, cd, rfl, hsd, hlcd, hcmd⟩ := hod.forms
      have hcr := cell_below hbw hc
      by_cases hlt : k < b.toNat
      · obtain ⟨j, hj⟩ : ∃ j, b.toNat - k = j + 1 := ⟨b.toNat - k - 1, by omega⟩
        have hj' : b.toNat - (k + 1) = j := by omega
        rw [hj] at HU
        have HJ := Lib.hid hj'
        clear hj hj'
        have hlt' : (k : Int) < (b.toNat : Int) := by omega
        have ha0 : (0 : Int) ≤ (a : Int) := by omega
        have ha1 : (a : Int) ≤ (n : Int) := by omega
        have hsr : Seg wr (if c = a then some ⟨g, o, none⟩ else some ⟨g, o + a, none⟩) (n - a) ((b :: r).drop a) := (ha.below hbw).from_ a c han hnc
        obtain ⟨A1, hA1⟩ : ∃ A1, (if c = a then some (⟨g, o, none⟩ : Addr) else some ⟨g, o + a, none⟩) = A1 := ⟨_, rfl⟩
        rw [hA1] at hsr
        obtain ⟨rest, hrest⟩ : ∃ rest, (b :: r).drop a = rest := ⟨_, rfl⟩
        rw [hrest] at hsr HU
        have HR := Lib.hid hrest
        clear hrest
        rcases hD : dec rest with ⟨v, m, x⟩
        have hv22 : (dec rest).2.2 = x := by rw [hD]
        by_cases hx : x = 0
        · subst hx
          have e : unpA d (j + 1) rest = unpA (d ++ [v]) j (rest.drop m) := by rw [unpA_go _ _ _ hv22, hD]
          have hm : m ≤ rest.length := by have := (dec_ok rest hv22).2.1; rw [hD] at this; exact this
          have hm' : a + m ≤ n := by rw [hsr.1] at hm; omega
          have e2 : rest.drop m = (b :: r).drop (a + m) := by rw [← HR.out, List.drop_drop]
          have HE := Lib.hid e
          have HE2 := Lib.hid e2
          clear e hv22 e2 hm
          go_wp2_with fail
          refine (rdecode_of A1 (n - a) (c - a) rest v m 0 _ hsr (by omega) (by unfold maxLen; omega) hD).mono ?_
          rintro e w2 ⟨rfl, hb2⟩
          have hbw2 : Below w.heap.size w w2 := Below.next' hbw hb2 hbw.size
          have hod2 := hod.below hb2
          clear hb2 hod hD
          go_wp2_with (
               at_builtin
               refine wpList_append_vals _ rfl (.tmp 32) (.tmp 34) _ _ vt rfl w.heap.size _ d rfl ((hod2.alloc _).alloc _) _ 1 1 [v] rfl (SegV.newAt _ _ _ _ _ _ (by simp) rfl rfl) (by omega) (by have := hbw2.size; simp; omega) ?_
               intro v3 w3 ho3 hg3 _
               obtain ⟨d3, hd3⟩ : ∃ d3, d ++ [v] = d3 := ⟨_, rfl⟩
               have hl3 : d3.length = d.length + 1 := by rw [← hd3]; simp
               have hbw3 := below_grownV ((hbw2.alloc hbw2.size _).alloc (by have := hbw2.size; simp; omega) _) ((hod2.alloc _).alloc _) hg3 (Nat.le_refl _) (by have := hbw2.size; simp; omega)
               rw [hd3] at ho3
               have HD3 := Lib.hid hd3
               have HL3 := Lib.hid hl3
               clear hd3 hg3 hl3
               obtain ⟨A3, c3, rfl, hs3, hlc3, hcm4⟩ := ho3.forms)
          go_roundw
          case rel =>
            exact ⟨k + 1, a + m, d3, hlt, by go_num, by rw [HL3.out, HDK.out], ho3, by go_num, hm', by rw [HU.out, HE.out, HD3.out, HJ.out, HE2.out], hbw3⟩
          case measure => simp [intOf]; omega
        · have e : unpA d (j + 1) rest = ([], x) := by rw [unpA_err _ _ _ (by rw [hv22]; exact hx), hv22]
          have hxb : (x != 0) = true := by simpa using hx
          have HE := Lib.hid e
          clear e hv22
          go_wp2_with fail
          refine (rdecode_of A1 (n - a) (c - a) rest v m x _ hsr (by omega) (by unfold maxLen; omega) hD).mono ?_
          rintro e w2 ⟨rfl, hb2⟩
          have hbw2 : Below w.heap.size w w2 := Below.next' hbw hb2 hbw.size
          clear hb2 hod hD
          go_wp2
          go_ret2
          exact UnpP.err (by show unpA [] b.toNat r = _; rw [HU.out, HE.out]) (hbw2.alloc hbw2.size _)
      · have hk0 : b.toNat - k = 0 := by omega
        rw [hk0] at HU
        clear hk0
        have hge : (b.toNat : Int) ≤ (k : Int) := by omega
        by_cases hn0 : a = n
        · subst hn0
          go_wp2
          go_ret2
          have e : unpackL (b :: r) = (d, 0) := by show unpA [] b.toNat r = _; rw [HU.out, unpA_end _ _ (by rw [List.length_drop, HLL.out]; omega)]
          exact ⟨_, by rw [e]; rfl, by rw [e]; exact hod, hbw⟩
        · have hn1 : (a : Int) < (n : Int) := by omega
          go_wp2
          go_ret2
          exact UnpP.err (by show unpA [] b.toNat r = _; rw [HU.out, unpA_more _ _ (by rw [List.length_drop, HLL.out]; omega)]) hbw

end Go.Proofs.Ytcmagjeplofagaa
