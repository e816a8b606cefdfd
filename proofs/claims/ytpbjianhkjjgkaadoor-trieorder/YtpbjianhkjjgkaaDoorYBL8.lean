/-
  The walk of the law TriePlays.
-/
import Derived.Test.YtpbjianhkjjgkaaDoorYBK3
namespace Go.Proofs.YtpbjianhkjjgkaaDoor
open Go.RowKit

set_option maxRecDepth 8000 in
set_option maxHeartbeats 64000000 in
theorem triePlays_core (A : Option Addr) (n c : Nat) (L : List TAct) (w : World) (ha : SegTA w A n L) (hnc : n ≤ c) (hcm : c ≤ maxLen) (hsm : SmallA 40 L) (ht : Tab w) :
    Calls Tryd.prog 3 #[.slice A n c] w fun e w' => e = .returned (.bool true) ∧ Below w.heap.size w w' := by
  have hI := madeI_its L
  have hrw := madeI_row hsm
  have HMA := Lib.hid (fun W (h : Below w.heap.size w W) => made09_any A n c L W (ha.below h) hcm hnc hsm.1 (Tab.below ht h))
  have HSM := Lib.hid (fun W (h : Below w.heap.size w W) => small09_any A n c L true W (ha.below h) hcm hnc ⟨fun _ => hsm, fun _ => rfl⟩)
  obtain ⟨m, hmm⟩ : ∃ m, madeI L = m := ⟨_, rfl⟩
  simp only [hmm] at HMA hI hrw
  have HM := Lib.hid hI
  have HRW := Lib.hid hrw
  have HCNT := Lib.hid (tree_cnt 256 m 0 rfl (Good.root hI.1 hI.2))
  have hml := its_len hI
  clear hmm hsm hrw hI ha hnc
  go_enter Tryd.func3, Tryd.ntmps3
  go_wp2_with fail
  refine (back_any _ ht).mono ?_
  rintro e w1 ⟨rfl, hb1⟩
  go_wp2_with fail
  refine (HSM.out _ hb1).mono ?_
  rintro e w2 ⟨rfl, rfl⟩
  go_wp2_with fail
  refine (HMA.out _ hb1).mono ?_
  rintro e w3 ⟨tv, sv, S, rfl, hp, hso, hsi, hb3⟩
  have hb := Below.next' hb1 hb3 hb1.size
  obtain ⟨tq, rfl⟩ := hp.ptr
  obtain ⟨SA, sc, rfl, hsg, _, _⟩ := hso.forms
  have hsl := hsi.len
  obtain ⟨ns, hns⟩ : ∃ ns, S.length = ns := ⟨_, rfl⟩
  rw [hns] at hsg hsl ⊢
  have HSL := Lib.hid hsl
  have hns280 : ns ≤ 280 := by omega
  clear hso hb1 hb3 HSM HMA hns hsl
  go_wp2_with fail
  go_loopw [5, 6, 7, 8, 9] (fun iv _ _ _ _ w' => ∃ k : Nat, k ≤ 24 ∧ iv = .int .i64 (k : Int) ∧ TreeAt w' (tree 256 m 0) (.pointer tq) ∧ SegG itLay w' SA ns S ∧ ItsAt w' S m ∧ Below w.heap.size w w') (fun iv _ _ _ _ _ => 24 - (intOf iv).toNat)
  case atStart => exact ⟨0, by omega, rfl, hp, hsg, hsi, hb⟩
  case round =>
    clear hp hsg hsi hb
    obtain ⟨k, hk, rfl, hp, hsg, hsi, hb⟩ := hrel
    rename World => wl
    by_cases hlt : k < 24
    · have hwu : IntKind.u8.wrap (k : Int) = (k : Int) := u8_in _ (by omega) (by omega)
      have kc := fun W => run_kk W k hlt
      have hks := keyOf_size k
      have HKS := Lib.hid (fun x hx => HM.out.keys (k := k) (by omega) x hx)
      by_cases hin : ∃ l, (k, l) ∈ m
      · obtain ⟨l, hin⟩ := hin
        have hlr := HRW.out _ hin
        have HGI := Lib.hid (fun (W : World) (h : ItsAt W S m) => getS_in h HM.out.1 HKS.out hin)
        have HG := Lib.hid (fun (W : World) (h1 : TreeAt W (tree 256 m 0) (.pointer tq)) (h2 : Tab W) => tget_in m k l _ W HM.out hin h1 h2)
        obtain ⟨q, hq⟩ : ∃ q, l.length = q := ⟨_, rfl⟩
        have hq20 : q ≤ 20 := by rw [← hq]; exact hlr
        have HLQ := Lib.hid hq
        obtain ⟨K, hK⟩ : ∃ K, keyOf k = K := ⟨_, rfl⟩
        simp only [hK] at kc HGI HG hks
        clear hK hin hlr hq
        have hal := (Below.refl wl.heap.size wl).alloc (Nat.le_refl _) (.cells #[.int .u8 107, .int .u8 (k : Int)] 5)
        have HW := Lib.hid (And.intro (hp.below hal) (And.intro (hsg.below hal) (And.intro (hsi.below hal) (Below.next' hb hal hb.size))))
        clear hp hsg hsi hb hal
        go_wp2_with fail
        obtain ⟨hp, hsg, hsi, hb⟩ := HW.out
        clear HW
        generalize wl.alloc (.cells #[.int .u8 107, .int .u8 (k : Int)] 5) = w5 at *
        refine (HG.out _ hp (Tab.below ht hb)).mono ?_
        rintro e6 w6 ⟨u6, rfl, hu6, hb6⟩
        obtain ⟨A6, c6, rfl, hs6, _, _⟩ := hu6.formsn q HLQ.out
        clear hu6
        have hp := hp.below hb6
        have hsg := hsg.below hb6
        have hsi := hsi.below hb6
        have hb := Below.next' hb hb6 hb.size
        clear hb6
        have hal := (Below.refl w6.heap.size w6).alloc (Nat.le_refl _) (.cells #[.int .u8 107, .int .u8 (k : Int)] 5)
        have HW := Lib.hid (And.intro (hp.below hal) (And.intro (hsg.below hal) (And.intro (hsi.below hal) (Below.next' hb hal hb.size))))
        have hs6 := hs6.below hal
        clear hp hsg hsi hb hal
        go_wp2_with fail
        obtain ⟨hp, hsg, hsi, hb⟩ := HW.out
        clear HW
        generalize w6.alloc (.cells #[.int .u8 107, .int .u8 (k : Int)] 5) = w7 at *
        have hrg := rget_any SA ns sc S K _ hsg (by omega)
        obtain ⟨s, hs, hit⟩ := HGI.out _ hsi
        rw [hs] at hrg
        obtain ⟨es, eA, en, ec⟩ := s
        have hsr := hit.2.1
        have hen : en = q := by have h1 := hsr.1; have h2 := HLQ.out; dsimp only at h1; omega
        dsimp only at hsr
        subst hen
        have HRG := Lib.hid (show Calls Tryd.prog 21 #[.slice SA ns sc, .string K] w7 (fun e w' => e = .returned (.tuple #[.slice eA en ec, .bool true]) ∧ w' = w7) from hrg)
        clear hrg hs hit
        refine HRG.out.mono ?_
        rintro e8 w8 ⟨rfl, rfl⟩
        clear HRG
        go_wp2_with fail
        refine (bytes_any A6 eA en en c6 ec l l _ hs6 hsr (by simp only [maxLen]; omega)).mono ?_
        rintro e9 w9 ⟨rfl, u, rfl⟩
        rw [show (l == l) = true by simp]
        rename World => w8
        have hD := belD w8 u
        have hp := hp.below hD
        have hsg := hsg.below hD
        have hsi := hsi.below hD
        have hb := Below.next' hb hD hb.size
        go_wp2
        go_roundw
        case rel => exact ⟨k + 1, by omega, by go_num, hp, hsg, hsi, hb⟩
        case measure => simp [intOf]; omega
      · have hno : ∀ x ∈ m, keyOf x.1 ≠ keyOf k := fun x hx e => hin ⟨x.2, by rw [← (HKS.out x hx).1 e]; exact hx⟩
        obtain ⟨K, hK⟩ : ∃ K, keyOf k = K := ⟨_, rfl⟩
        simp only [hK] at kc hno hks
        have HNO := Lib.hid hno
        have HG := Lib.hid (fun (W : World) (h1 : TreeAt W (tree 256 m 0) (.pointer tq)) (h2 : Tab W) => tget_out m K _ W HM.out hno (by omega) h1 h2)
        clear hK hin hno
        have hal := (Below.refl wl.heap.size wl).alloc (Nat.le_refl _) (.cells #[.int .u8 107, .int .u8 (k : Int)] 5)
        have HW := Lib.hid (And.intro (hp.below hal) (And.intro (hsg.below hal) (And.intro (hsi.below hal) (Below.next' hb hal hb.size))))
        clear hp hsg hsi hb hal
        go_wp2_with fail
        obtain ⟨hp, hsg, hsi, hb⟩ := HW.out
        clear HW
        generalize wl.alloc (.cells #[.int .u8 107, .int .u8 (k : Int)] 5) = w5 at *
        refine (HG.out _ hp (Tab.below ht hb)).mono ?_
        rintro e6 w6 ⟨rfl, hb6⟩
        have hp := hp.below hb6
        have hsg := hsg.below hb6
        have hsi := hsi.below hb6
        have hb := Below.next' hb hb6 hb.size
        clear hb6
        have hal := (Below.refl w6.heap.size w6).alloc (Nat.le_refl _) (.cells #[.int .u8 107, .int .u8 (k : Int)] 5)
        have HW := Lib.hid (And.intro (hp.below hal) (And.intro (hsg.below hal) (And.intro (hsi.below hal) (Below.next' hb hal hb.size))))
        clear hp hsg hsi hb hal
        go_wp2_with fail
        obtain ⟨hp, hsg, hsi, hb⟩ := HW.out
        clear HW
        generalize w6.alloc (.cells #[.int .u8 107, .int .u8 (k : Int)] 5) = w7 at *
        have hrg := rget_any SA ns sc S K _ hsg (by omega)
        rw [getS_out hsi HNO.out] at hrg
        have HRG := Lib.hid (show Calls Tryd.prog 21 #[.slice SA ns sc, .string K] w7 (fun e w' => e = .returned (.tuple #[.slice none 0 0, .bool false]) ∧ w' = w7) from hrg)
        clear hrg
        refine HRG.out.mono ?_
        rintro e8 w8 ⟨rfl, rfl⟩
        clear HRG
        go_wp2_with fail
        refine (bytes_any none none 0 0 0 0 [] [] _ (Seg.nil _ _) (Seg.nil _ _) (by simp [maxLen])).mono ?_
        rintro e9 w9 ⟨rfl, u, rfl⟩
        rw [show (([] : List UInt8) == []) = true from rfl]
        rename World => w8
        have hD := belD w8 u
        have hp := hp.below hD
        have hsg := hsg.below hD
        have hsi := hsi.below hD
        have hb := Below.next' hb hD hb.size
        go_wp2
        go_roundw
        case rel => exact ⟨k + 1, by omega, by go_num, hp, hsg, hsi, hb⟩
        case measure => simp [intOf]; omega
    · obtain rfl : k = 24 := by omega
      have h24 : decide (((24 : Nat) : Int) < 24) = false := by decide
      rw [show ((24 : Nat) : Int) = 24 from rfl]
      have hTD := tdig_any _ _ _ hp (Tab.below ht hb)
      have hDG := fun W (h : Below wl.heap.size wl W) => rdigest_any 256 m 0 SA ns sc S W rfl (Good.root HM.out.1 HM.out.2) (by omega) (fun x hx => by have := HRW.out x hx; omega) (hsg.below h) (hsi.below h)
      have hLE := fun W (h : Below wl.heap.size wl W) => tlen_any _ _ W (hp.below h)
      have hKE := fun W (h : Below wl.heap.size wl W) => tkeys_any m _ W HM.out (hp.below h)
      have hRK := fun W (h : Below wl.heap.size wl W) => rkeys_any SA ns sc S W (hsg.below h) (by omega)
      rw [hsi.keysOf] at hRK
      rw [HCNT.out, ← HSL.out] at hLE
      rw [← HSL.out] at hKE
      obtain ⟨X, hX⟩ : ∃ X : ByteArray, ⟨(tree 256 m 0).dig.toArray⟩ = X := ⟨_, rfl⟩
      rw [hX] at hTD hDG
      have hXX : (X.toList == X.toList) = true := by simp
      have HTD := Lib.hid hTD
      have HDG := Lib.hid hDG
      have HLE := Lib.hid hLE
      have HKE := Lib.hid hKE
      have HRK := Lib.hid hRK
      have hnil : (m = [] ∧ ns = 0 ∧ tq = none) ∨ (ns ≠ 0 ∧ ∃ a, tq = some a) := by
        rcases hm0 : m with _ | ⟨x, r⟩
        · refine .inl ⟨rfl, by rw [HSL.out, hm0]; rfl, ?_⟩
          rw [hm0, tree_nil] at hp
          have e1 : Value.pointer tq = .pointer none := hp
          injection e1
        · refine .inr ⟨by rw [HSL.out, hm0]; simp, ?_⟩
          have hp2 := hp
          have hc := HCNT.out
          rw [hm0] at hc
          rw [hm0] at hp2
          rcases ht2 : tree 256 (x :: r) 0 with _ | ⟨u, l⟩ | ⟨a, b, dd⟩
          · rw [ht2] at hc
            simp [Tr.cnt] at hc
          · rw [ht2] at hp2
            obtain ⟨g, _, _, e1, _⟩ := hp2
            injection e1 with e1
            exact ⟨_, e1⟩
          · rw [ht2] at hp2
            obtain ⟨g, _, _, e1, _⟩ := hp2
            injection e1 with e1
            exact ⟨_, e1⟩
      have HNIL := Lib.hid hnil
      clear hTD hDG hLE hKE hRK hX hp hsg hsi hnil
      go_wp2_with fail
      refine HTD.out.mono ?_
      rintro e3 w6 ⟨rfl, hb6⟩
      have hbl := hb6
      have hdg := HDG.out _ hbl
      rw [show ((0 : Nat) : Int) = 0 from rfl] at hdg
      have HDG1 := Lib.hid hdg
      clear hdg hb6
      go_wp2_with fail
      refine HDG1.out.mono ?_
      rintro e4 w7 ⟨rfl, hb7⟩
      have hbl := Below.next' hbl hb7 hbl.size
      clear hb7 HDG1
      go_wp2_with fail
      refine (HLE.out _ hbl).mono ?_
      rintro e5 w8 ⟨rfl, rfl⟩
      go_wp2_with fail
      refine (HKE.out _ hbl).mono ?_
      rintro e6 w9 ⟨A6, c6, rfl, hs6, hb9⟩
      have hbl := Below.next' hbl hb9 hbl.size
      clear hb9
      go_wp2_with fail
      refine (HRK.out _ hbl).mono ?_
      rintro e7 w10 ⟨A7, c7, rfl, hs7, hb10⟩
      have hs6 := hs6.below hb10
      have hbl := Below.next' hbl hb10 hbl.size
      clear hb10
      go_wp2_with fail
      refine (texts_any A6 A7 ns ns c6 c7 _ _ true _ hs6 hs7 (by omega) ⟨fun _ => rfl, fun _ => rfl⟩).mono ?_
      rintro e8 w11 ⟨rfl, u, rfl⟩
      have hbw := Below.drewN' (Below.next' hb hbl hb.size) u
      clear hs6 hs7 hbl
      rcases HNIL.out with ⟨_, rfl, rfl⟩ | ⟨h0, a, rfl⟩
      · go_wp2
        go_ret
        exact ⟨rfl, hbw⟩
      · have hn0 : ((ns : Int) == 0) = false := by simp; omega
        go_wp2
        go_ret
        exact ⟨rfl, hbw⟩


set_option maxRecDepth 8000 in
set_option maxHeartbeats 4000000 in
theorem triePlays_long (A : Option Addr) (n c : Nat) (L : List TAct) (w : World) (ha : SegTA w A n L) (hnc : n ≤ c) (hcm : c ≤ maxLen) (hs : ¬ SmallA 40 L) (ht : Tab w) :
    Calls Tryd.prog 3 #[.slice A n c] w fun e w' => e = .returned (.bool true) ∧ Below w.heap.size w w' := by
  have HSM := Lib.hid (fun W (h : Below w.heap.size w W) => small09_any A n c L false W (ha.below h) hcm hnc ⟨fun h => Bool.noConfusion h, fun h => absurd h hs⟩)
  clear ha hs
  go_enter Tryd.func3, Tryd.ntmps3
  go_wp2_with fail
  refine (back_any _ ht).mono ?_
  rintro e w1 ⟨rfl, hb1⟩
  go_wp2_with fail
  refine (HSM.out _ hb1).mono ?_
  rintro e w2 ⟨rfl, rfl⟩
  go_wp2_with fail
  refine (back_any _ (Tab.below ht hb1)).mono ?_
  rintro e w3 ⟨rfl, hb3⟩
  go_wp2
  go_ret
  exact ⟨rfl, Below.next' hb1 hb3 hb1.size⟩

theorem triePlays_walk (A : Option Addr) (n c : Nat) (L : List TAct) (w : World) (ha : SegTA w A n L) (hnc : n ≤ c) (hcm : c ≤ maxLen) (ht : Tab w) :
    Calls Tryd.prog 3 #[.slice A n c] w fun e w' => e = .returned (.bool true) ∧ Below w.heap.size w w' := by
  by_cases h : SmallA 40 L
  · exact triePlays_core A n c L w ha hnc hcm h ht
  · exact triePlays_long A n c L w ha hnc hcm h ht

end Go.Proofs.YtpbjianhkjjgkaaDoor
