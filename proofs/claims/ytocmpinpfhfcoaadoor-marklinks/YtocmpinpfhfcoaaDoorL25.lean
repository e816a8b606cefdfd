/-
  The walk of the law MarkLinks.
-/
import Derived.Test.YtocmpinpfhfcoaaDoorWM4
import Derived.Test.YtocmpinpfhfcoaaDoorOpenL
import Derived.Deep.RegionHeld3
namespace Go.Proofs.YtocmpinpfhfcoaaDoor
open Go.RowKit

set_option maxRecDepth 8000 in
set_option maxHeartbeats 8000000 in
theorem markLinks_walk (A : Option Addr) (n c : Nat) (ls : List (List UInt8)) (w : World) (ha : SegL w A n ls) (_ : n ≤ c) (_ : c ≤ maxLen) (ht : Tab w) :
    Calls Tryd.prog 7 #[.slice A n c] w fun e w' => e = .returned (.bool true) ∧ Below w.heap.size w w' := by
  by_cases h20 : n ≤ 20
  · have hd0 : decide ((20 : Int) < (n : Int)) = false := decide_eq_false (by omega)
    go_enter Tryd.func7, Tryd.ntmps7
    go_wp2_with fail
    refine (empty_any _ ht).mono ?_
    rintro e w1 ⟨rfl, hb1⟩
    go_wp2_with fail
    refine (rempty_any _).mono ?_
    rintro e w2 ⟨rfl, hb2⟩
    have hbw2 : Below w.heap.size w w2 := Below.next' hb1 hb2 hb1.size
    clear hb1 hb2
    have hz := sha_size [0]
    generalize ByteArray.mk (sha [0]).toArray = B0 at *
    go_wp2_with fail
    go_loopw [3, 4, 5] (fun a b i w' => ∃ (k : Nat) (s : ByteArray), k ≤ n ∧ i = .int .i64 k ∧ a = .string s ∧ b = .string s ∧ s.size = 32 ∧ Below w.heap.size w w') (fun _ _ i _ => n - (intOf i).toNat)
    case atStart => exact ⟨0, B0, by omega, rfl, rfl, rfl, hz, hbw2⟩
    case round =>
      clear hbw2 hz
      obtain ⟨k, s, hk, rfl, rfl, rfl, hsz, hbw⟩ := hrel
      by_cases hlt : k < n
      · obtain ⟨g, o, rfl, hel⟩ := ha.2 (by omega)
        have hkl : k < ls.length := by rw [ha.1]; exact hlt
        obtain ⟨B, m, c', hc0, hs0, hm1, hm2⟩ := hel k _ (List.getElem?_eq_getElem hkl)
        generalize ls[k] = l at *
        have hc := cell_below hbw hc0
        have hs := hs0.below hbw
        have htr := Tab.below ht hbw
        clear hel hkl hc0 hs0
        by_cases h60 : m ≤ 60
        · have hd1 : decide ((60 : Int) < (m : Int)) = false := decide_eq_false (by omega)
          go_wp2_with fail
          go_region_held3 (fun W' => W'.cell? ⟨g, o + k, none⟩ = some (.slice B m c') ∧ Below wr.heap.size wr W')
            (first | exact ⟨hc, (Below.refl _ _).drew⟩ | exact ⟨cell_below hB hc, hB⟩)
            (first
              | (go_at_call 12
                 refine (leaf_any ⟨#[107]⟩ B m c' l _ (hs.below (‹_ ∧ Below _ _ _›).2) ?_ ?_ (Tab.below htr (‹_ ∧ Below _ _ _›).2)).mono ?_
                 · show 1 ≤ 100000000
                   omega
                 · omega
                 rintro e w3 ⟨rfl, hb3⟩
                 have hB : Below wr.heap.size wr w3 := Below.next (‹_ ∧ Below _ _ _›).2 hb3)
              | (go_at_call 19
                 refine (link_any s _ B m c' l _ (hs.below (‹_ ∧ Below _ _ _›).2) ?_ ?_ ?_ (Tab.below htr (‹_ ∧ Below _ _ _›).2)).mono ?_
                 · omega
                 · rw [sha_size]; omega
                 · omega
                 rintro e w4 ⟨rfl, hb4⟩
                 have hB : Below wr.heap.size wr w4 := Below.next (‹_ ∧ Below _ _ _›).2 hb4))
          have hc4 := cell_below hB hc
          have hs4 := hs.below hB
          have hbw4 : Below w.heap.size w w4 := Below.next' hbw hB hbw.size
          clear hB hb4 hb3 hc hs htr
          obtain ⟨d, hd⟩ : ∃ d, leafL (ByteArray.mk #[107]).data.toList l = d := ⟨_, rfl⟩
          have HD := Lib.hid hd
          have HL := Lib.hid (show d.length ≤ 70 by
            rw [← hd, leafL_length, hs4.1]
            show 5 + 1 + m ≤ 70
            omega)
          have hd' : leafL [107] l = d := hd
          rw [hd']
          obtain ⟨T, hT⟩ : ∃ T, ByteArray.mk (sha (linkL s.data.toList (sha d) (sha l))).toArray = T := ⟨_, rfl⟩
          have hTz : T.size = 32 := by rw [← hT]; exact sha_size _
          rw [hT]
          have HT := Lib.hid hT
          clear hd hd' hT
          go_wp2_with fail
          go_region_held3 (fun W' => W'.cell? ⟨g, o + k, none⟩ = some (.slice B m c') ∧ Below w4.heap.size w4 W')
            (first | exact ⟨hc4, (Below.refl _ _).drew⟩ | exact ⟨cell_below hB hc4, hB⟩)
            (first
              | (go_at_call 11
                 refine (rleafB_any ⟨#[107]⟩ B m c' l _ (hs4.below (‹_ ∧ Below _ _ _›).2) ?_ ?_).mono ?_
                 · show 1 ≤ 100000000
                   omega
                 · omega
                 rw [HD.out]
                 rintro e w5 ⟨v5, rfl, ho5, hb5⟩
                 obtain ⟨A5, c5, rfl, hs5, _, _⟩ := ho5.forms
                 have hB : Below w4.heap.size w4 w5 := Below.next (‹_ ∧ Below _ _ _›).2 hb5
                 clear ho5)
              | (go_at_call 13
                 refine (rsum_any A5 _ c5 d _ hs5 ?_).mono ?_
                 · exact Nat.le_trans HL.out (by decide)
                 rintro e w6 ⟨rfl, hb6⟩
                 have hB : Below w4.heap.size w4 w6 := Below.next (‹_ ∧ Below _ _ _›).2 hb6)
              | (go_at_call 20
                 refine (rlink_any s _ B m c' l _ (hs4.below (‹_ ∧ Below _ _ _›).2) ?_ ?_ ?_).mono ?_
                 · omega
                 · rw [sha_size]; omega
                 · omega
                 rw [sha_list, HT.out]
                 rintro e w7 ⟨rfl, hb7⟩
                 have hB : Below w4.heap.size w4 w7 := Below.next (‹_ ∧ Below _ _ _›).2 hb7))
          have hbw7 : Below w.heap.size w w7 := Below.next' hbw4 hB hbw4.size
          clear hB hb5 hb6 hb7 hc4 hs4 hs5 hbw4
          go_wp2_with fail
          go_roundw
          case rel => exact ⟨k + 1, T, by omega, by go_num, rfl, rfl, hTz, hbw7⟩
          case measure => simp [intOf]; omega
        · have hd1 : decide ((60 : Int) < (m : Int)) = true := decide_eq_true (by omega)
          go_wp2_with fail
          refine (long_any _ htr).mono ?_
          rintro e w3 ⟨rfl, hb3⟩
          go_wp2
          go_ret
          exact ⟨rfl, Below.next' hbw hb3 hbw.size⟩
      · go_wp2_with fail
        refine (long_any _ (Tab.below ht hbw)).mono ?_
        rintro e w3 ⟨rfl, hb3⟩
        go_wp2
        go_ret
        exact ⟨rfl, Below.next' hbw hb3 hbw.size⟩
  · have hd0 : decide ((20 : Int) < (n : Int)) = true := decide_eq_true (by omega)
    go_enter Tryd.func7, Tryd.ntmps7
    go_wp2_with fail
    refine (long_any _ ht).mono ?_
    rintro e w1 ⟨rfl, hb1⟩
    go_wp2
    go_ret
    exact ⟨rfl, hb1⟩

end Go.Proofs.YtocmpinpfhfcoaaDoor
