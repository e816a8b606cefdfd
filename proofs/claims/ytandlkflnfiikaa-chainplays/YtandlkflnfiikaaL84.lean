/-
  The walk of the law ChainPlays.
-/
import Derived.Test.YtandlkflnfiikaaCH9
import Derived.Lib.QuietBelow
import Derived.Test.YtandlkflnfiikaaOpenG
import Derived.OpenShut
namespace Go.Proofs.Ytandlkflnfiikaa
open Go.RowKit

set_option maxRecDepth 8000 in
set_option maxHeartbeats 80000000 in
theorem chainPlays_core0 (A : Option Addr) (n c : Nat) (L : List DAct) (w : World) (ha : SegDA w A n L) (h1 : n ≤ 60) :
    Calls Try.prog 3 #[.slice A n c, .bool false] w fun e w' => e = .returned (.bool true) ∧ Below w.heap.size w w' := by
  have d0 : decide ((60 : Int) < (n : Int)) = false := decide_eq_false (by omega)
  go_enter Try.func3, Try.ntmps3
  go_wp2_with fail
  refine (gone_any _).mono ?_
  rintro e w1 ⟨rfl, hb1⟩
  go_wp2_with fail
  refine (cnew_any _).mono ?_
  rintro e w2 ⟨g, rfl, hc2, hb2, hgw⟩
  clear hgw
  have hbw2 := Below.next' hb1 hb2 hb1.size
  have hz1 := hb1.size
  have hz2 := hb2.size
  have hgl2 := hc2.lt g (.inl (.inl rfl))
  have ha2 : Below w2.heap.size w2 (w2.alloc (.cells #[.slice none 0 0, .int .i64 0] 28)) := (Below.refl _ _).alloc (Nat.le_refl _) _
  have ht2 : Tw (w2.alloc (.cells #[.slice none 0 0, .int .i64 0] 28)) w1.heap.size g w2.heap.size (.slice none 0 0) [] none 0 0 [] [] 0 :=
    ⟨hc2.below ha2, by simp, by simp, fun j => by simp, Md.nil _, fun k hk => by
      rcases hk with ⟨h, _⟩ | ⟨s, hs, _⟩
      · omega
      · simp at hs, fun h => by have := ChS.nil h; omega, hz2, Asc.nil⟩
  have hbw3 := Below.next' hbw2 ha2 hbw2.size
  clear hc2 hb1 hb2 hbw2 ha2
  obtain ⟨gm, hgm⟩ : ∃ gm, w2.heap.size = gm := ⟨_, rfl⟩
  obtain ⟨w3, hw3⟩ : ∃ w3, w3 = w2.alloc (.cells #[.slice none 0 0, .int .i64 0] 28) := ⟨_, rfl⟩
  rw [← hw3, hgm] at ht2
  rw [← hw3] at hbw3
  have HW3 := Lib.hid hw3
  have HGM := Lib.hid hgm
  clear hw3 hgm
  go_upto_region 5 with fail
  rw [← HW3.out, HGM.out]
  clear HW3 HGM hz2 hgl2
  go_wp2_with fail
  go_loopw [7, 8, 9, 10, 11, 12, 13, 14, 15, 16, 17, 18, 19, 20, 21, 22] (fun i _ _ _ _ _ _ _ _ _ _ _ _ _ _ _ w' => ∃ (k n2 c2 : Nat) (v : Value) (S S2 : List VerS) (A2 : Option Addr) (L' : List Ver) (last : Int), k ≤ n ∧ i = .int .i64 k ∧ Tw w' w1.heap.size g gm v S A2 n2 c2 S2 L' last ∧ L'.length ≤ k ∧ (∀ x ∈ L', x.row.length ≤ 30) ∧ Below w.heap.size w w') (fun i _ _ _ _ _ _ _ _ _ _ _ _ _ _ _ _ => n - (intOf i).toNat)
  case atStart => exact ⟨0, _, _, _, _, _, _, _, _, by omega, rfl, ht2, by simp, by simp, hbw3⟩
  case round =>
    clear ht2 hbw3
    obtain ⟨k, n2, c2, v, S, S2, A2, L', last, hk, rfl, htw, hlk, hrow, hbw⟩ := hrel
    by_cases hlt : k < n
    · obtain ⟨x, hx⟩ : ∃ x, L[k]'(by rw [ha.len]; exact hlt) = x := ⟨_, rfl⟩
      obtain ⟨gA, oA, B, m, cB, rfl, q0, q1, q2, hsB0, hmc, hcm, hxd, hxn0, hxn1⟩ := ha.at_ hlt x hx
      clear hx
      obtain ⟨xd, xn, xp⟩ := x
      simp only at q0 q1 hsB0 hxd hxn0 hxn1
      have q0 := cell_below hbw q0
      have q1 := cell_below hbw q1
      have q2 := cell_below hbw q2
      have hsB := hsB0.below hbw
      by_cases hm : m ≤ 30
      · have dm : decide ((30 : Int) < (m : Int)) = false := decide_eq_false (by omega)
        obtain ⟨q, hq⟩ : ∃ q, xd % 6 = q := ⟨_, rfl⟩
        have eq6 : (xd : Int) % 6 = (q : Int) := by omega
        have eq6t : (xd : Int).tmod 6 = (q : Int) := by rw [Int.tmod_eq_emod_of_nonneg (by omega)]; omega
        have hc : q = 0 ∨ q = 1 ∨ q = 2 ∨ q = 3 ∨ q = 4 ∨ q = 5 := by omega
        clear hq
        have hln2 : L'.length = n2 := htw.md.len
        skip
        have x0 : (wr.alloc (.cells #[.int .u8 (xd : Int), .int .i64 xn, .slice B m cB] 31)).cell? ⟨wr.heap.size, 0, none⟩ = some (.int .u8 (xd : Int)) := by simp
        have x1 : (wr.alloc (.cells #[.int .u8 (xd : Int), .int .i64 xn, .slice B m cB] 31)).cell? ⟨wr.heap.size, 1, none⟩ = some (.int .i64 xn) := by simp
        have x2 : (wr.alloc (.cells #[.int .u8 (xd : Int), .int .i64 xn, .slice B m cB] 31)).cell? ⟨wr.heap.size, 2, none⟩ = some (.slice B m cB) := by simp
        have htw4 := htw.alloc (.cells #[.int .u8 (xd : Int), .int .i64 xn, .slice B m cB] 31)
        have hsB4 := hsB.alloc (.cells #[.int .u8 (xd : Int), .int .i64 xn, .slice B m cB] 31)
        have hbw4 := hbw.alloc hbw.size (.cells #[.int .u8 (xd : Int), .int .i64 xn, .slice B m cB] 31)
        have hbne0 : wr.heap.size ≠ gm := fun e => by have := htw.lt; omega
        have hbc0 : ∀ k, ChS g v S k → k ≠ wr.heap.size := fun k hk e => by have := htw.ch.lt k hk; omega
        obtain ⟨b0, hb0⟩ : ∃ b, wr.heap.size = b := ⟨_, rfl⟩
        have HB := Lib.hid hb0
        obtain ⟨w4, hw4⟩ : ∃ w4, w4 = wr.alloc (.cells #[.int .u8 (xd : Int), .int .i64 xn, .slice B m cB] 31) := ⟨_, rfl⟩
        rw [← hw4, hb0] at x0 x1 x2
        rw [← hw4] at htw4 hsB4 hbw4
        rw [hb0] at hbne0 hbc0
        have HW4 := Lib.hid hw4
        clear htw hbw hsB hb0 hw4
        have htw := htw4; have hsB := hsB4; have hbw := hbw4
        clear htw4 hsB4 hbw4
        go_upto_region 14 with fail
        rw [← HW4.out, HB.out]
        clear q0 q1 q2 HW4 HB x1
        go_cut [53] (fun t53 wc => t53 = .int .u8 (q : Int) ∧ w4 = wc)
        case first =>
          go_wp2
          go_meet
          exact ⟨rfl, rfl⟩
        case rest =>
        obtain ⟨rfl, hwc⟩ := hcut
        subst hwc
        rename_i hKK
        refine hKK _ _ ?_
        go_cut [] (fun wc => ∃ (n2 c2 : Nat) (v : Value) (S S2 : List VerS) (A2 : Option Addr) (L' : List Ver) (last : Int), Tw wc w1.heap.size g gm v S A2 n2 c2 S2 L' last ∧ L'.length ≤ k + 1 ∧ (∀ x ∈ L', x.row.length ≤ 30) ∧ Below w.heap.size w wc)
        case first =>
          rcases hc with rfl | rfl | rfl | rfl | rfl | rfl
          · by_cases htl : last < xn
            · skip
              have y0 := htw.m0
              have y1 := htw.m1
              go_wp2_with fail
              refine (rcput_ok htw.md (by omega) htl B m cB xp false hsB (by omega)).mono ?_
              rintro e w5 ⟨A5, c5, S5, rfl, hmd5, hb5, hms5⟩
              have ht5 := htw.below hb5
              have m0 := ht5.m0
              have m1 := ht5.m1
              have mf0 := ht5.mf 0
              have mf1 := ht5.mf 1
              have hgl := ht5.lt
              have hgne : gm ≠ w5.heap.size := by omega
              have x05 := cell_below hb5 x0
              have x25 := cell_below hb5 x2
              have hbl5 : b0 < w5.heap.size := World.block_lt_of_cell? w5 _ x05
              have hbne : b0 ≠ w5.heap.size := by omega
              have hb5s := hb5.size
              have hsB5 := hsB.below hb5
              have hgmB := htw.hB
              have hbw5 := Below.next' hbw hb5 hbw.size
              clear x0 x2 y0 y1
              go_wp2_with fail
              have hot := only_two w5 gm (.slice A5 (n2 + 1) c5) (.int .i64 xn)
              obtain ⟨ws, hws⟩ : ∃ ws, ws = ((w5.setCell ⟨gm, 0, none⟩ (.slice A5 (n2 + 1) c5)).setCell ⟨gm, 1, none⟩ (.int .i64 xn)) := ⟨_, rfl⟩
              rw [← hws] at hot
              have hzs : ws.heap.size = w5.heap.size := by rw [hws]; simp [World.setCell]
              have hba : Below ws.heap.size ws (ws.alloc (.cells #[.slice A5 (n2 + 1) c5, .int .i64 xn] 28)) := (Below.refl _ _).alloc (Nat.le_refl _) _
              have hcs := (ht5.ch.only hot fun k hk e => ht5.hm (by rw [← e]; exact hk)).below hba
              have hsBs := (hsB5.only hot fun hn0 a0 ha0 e => by have := hsB0.lt hn0 a0 ha0; have := hbw.size; have e : a0.block = gm := e; omega).below hba
              have hbws : Below w.heap.size w (ws.alloc (.cells #[.slice A5 (n2 + 1) c5, .int .i64 xn] 28)) := (hot.below hbw5 (fun k e => by have e : k = gm := e; omega) hbw5.size).alloc (by rw [hzs]; exact hbw5.size) _
              have hoa : Only ws (ws.alloc (.cells #[.slice A5 (n2 + 1) c5, .int .i64 xn] 28)) (DkS g v) := (Only.refl ws _).alloc _
              have hza : (ws.alloc (.cells #[.slice A5 (n2 + 1) c5, .int .i64 xn] 28)).heap.size = ws.heap.size + 1 := by simp
              have HWS := Lib.hid hws
              rw [← hws]
              clear hws
              generalize ws.alloc (.cells #[.slice A5 (n2 + 1) c5, .int .i64 xn] 28) = wb at *
              refine (cput_ok hcs (by simp; omega) xn htl B m cB xp false hsBs (by omega)).mono ?_
              rintro e w7 ⟨rfl, v7, S7, hc7, ho7, hs7⟩
              rw [show L'.map strip ++ [strip ⟨xn, xp, false⟩] = (L' ++ ([⟨xn, xp, false⟩] : List Ver)).map strip by simp] at hc7
              have hbw7 := hcs.belows hbws ho7 hz1
              have htw7 := htw.move hb5 hmd5 (fun k hk => (hms5 k hk).imp id .inr) HWS.out (htw.asc.push ⟨xn, xp, false⟩ htl) hc7 (hoa.trans ho7 fun _ _ h => h) (fun k hk => (hs7 k hk).imp id fun e => by omega)
              have hlen7 : (L' ++ [(⟨xn, xp, false⟩ : Ver)]).length ≤ k + 1 := by simp; omega
              have hrow7 : ∀ x ∈ L' ++ [(⟨xn, xp, false⟩ : Ver)], x.row.length ≤ 30 := by
                intro x hx
                rcases List.mem_append.1 hx with hx | hx
                · exact hrow x hx
                · simp at hx; subst hx; have := hsB0.1; simp only; omega
              clear hcs hsBs hbws hoa hbw hbw5 htw ht5 hot hsB hsB5 m0 m1 mf0 mf1 x05 x25 hb5 hba hc7 ho7 hs7 hmd5 hms5
              go_wp2
              go_meet
              exact ⟨_, _, _, _, _, _, _, _, htw7, hlen7, hrow7, hbw7⟩
            · skip
              have y0 := htw.m0
              have y1 := htw.m1
              go_wp2_with fail
              refine (rcput_bad (w := w4) (t := xn) (last := last) (by omega) (.slice B m cB) false A2 n2 c2 rfl).mono ?_
              rintro e w5 ⟨rfl, hb5⟩
              have ht5 := htw.below hb5
              have m0 := ht5.m0
              have m1 := ht5.m1
              have mf0 := ht5.mf 0
              have mf1 := ht5.mf 1
              have hgl := ht5.lt
              have hgne : gm ≠ w5.heap.size := by omega
              have x05 := cell_below hb5 x0
              have x25 := cell_below hb5 x2
              have hbl5 : b0 < w5.heap.size := World.block_lt_of_cell? w5 _ x05
              have hbne : b0 ≠ w5.heap.size := by omega
              have hb5s := hb5.size
              have hsB5 := hsB.below hb5
              have hgmB := htw.hB
              have hbw5 := Below.next' hbw hb5 hbw.size
              clear x0 x2 y0 y1
              go_wp2_with fail
              have hot := only_two w5 gm (.slice A2 n2 c2) (.int .i64 last)
              obtain ⟨ws, hws⟩ : ∃ ws, ws = ((w5.setCell ⟨gm, 0, none⟩ (.slice A2 n2 c2)).setCell ⟨gm, 1, none⟩ (.int .i64 last)) := ⟨_, rfl⟩
              rw [← hws] at hot
              have hzs : ws.heap.size = w5.heap.size := by rw [hws]; simp [World.setCell]
              have hba : Below ws.heap.size ws (ws.alloc (.cells #[.slice A2 n2 c2, .int .i64 last] 28)) := (Below.refl _ _).alloc (Nat.le_refl _) _
              have hcs := (ht5.ch.only hot fun k hk e => ht5.hm (by rw [← e]; exact hk)).below hba
              have hsBs := (hsB5.only hot fun hn0 a0 ha0 e => by have := hsB0.lt hn0 a0 ha0; have := hbw.size; have e : a0.block = gm := e; omega).below hba
              have hbws : Below w.heap.size w (ws.alloc (.cells #[.slice A2 n2 c2, .int .i64 last] 28)) := (hot.below hbw5 (fun k e => by have e : k = gm := e; omega) hbw5.size).alloc (by rw [hzs]; exact hbw5.size) _
              have hoa : Only ws (ws.alloc (.cells #[.slice A2 n2 c2, .int .i64 last] 28)) (DkS g v) := (Only.refl ws _).alloc _
              have hza : (ws.alloc (.cells #[.slice A2 n2 c2, .int .i64 last] 28)).heap.size = ws.heap.size + 1 := by simp
              have HWS := Lib.hid hws
              rw [← hws]
              clear hws
              generalize ws.alloc (.cells #[.slice A2 n2 c2, .int .i64 last] 28) = wb at *
              refine (cput_bad hcs xn (by omega) _ _).mono ?_
              rintro e w7 ⟨rfl, rfl⟩
              have hbw7 := hbws
              have htw7 := htw.move hb5 ht5.md (fun k hk => .inr hk) HWS.out htw.asc hcs hoa (fun k hk => .inl hk)
              have hlen7 : L'.length ≤ k + 1 := by omega
              have hrow7 := hrow
              clear hcs hsBs hbws hoa hbw hbw5 htw ht5 hot hsB hsB5 m0 m1 mf0 mf1 x05 x25 hb5 hba
              go_wp2
              go_meet
              exact ⟨_, _, _, _, _, _, _, _, htw7, hlen7, hrow7, hbw7⟩
          · by_cases htl : last < xn
            · skip
              have y0 := htw.m0
              have y1 := htw.m1
              go_wp2_with fail
              refine (rcput_ok htw.md (by omega) htl B m cB xp false hsB (by omega)).mono ?_
              rintro e w5 ⟨A5, c5, S5, rfl, hmd5, hb5, hms5⟩
              have ht5 := htw.below hb5
              have m0 := ht5.m0
              have m1 := ht5.m1
              have mf0 := ht5.mf 0
              have mf1 := ht5.mf 1
              have hgl := ht5.lt
              have hgne : gm ≠ w5.heap.size := by omega
              have x05 := cell_below hb5 x0
              have x25 := cell_below hb5 x2
              have hbl5 : b0 < w5.heap.size := World.block_lt_of_cell? w5 _ x05
              have hbne : b0 ≠ w5.heap.size := by omega
              have hb5s := hb5.size
              have hsB5 := hsB.below hb5
              have hgmB := htw.hB
              have hbw5 := Below.next' hbw hb5 hbw.size
              clear x0 x2 y0 y1
              go_wp2_with fail
              have hot := only_two w5 gm (.slice A5 (n2 + 1) c5) (.int .i64 xn)
              obtain ⟨ws, hws⟩ : ∃ ws, ws = ((w5.setCell ⟨gm, 0, none⟩ (.slice A5 (n2 + 1) c5)).setCell ⟨gm, 1, none⟩ (.int .i64 xn)) := ⟨_, rfl⟩
              rw [← hws] at hot
              have hzs : ws.heap.size = w5.heap.size := by rw [hws]; simp [World.setCell]
              have hba : Below ws.heap.size ws (ws.alloc (.cells #[.slice A5 (n2 + 1) c5, .int .i64 xn] 28)) := (Below.refl _ _).alloc (Nat.le_refl _) _
              have hcs := (ht5.ch.only hot fun k hk e => ht5.hm (by rw [← e]; exact hk)).below hba
              have hsBs := (hsB5.only hot fun hn0 a0 ha0 e => by have := hsB0.lt hn0 a0 ha0; have := hbw.size; have e : a0.block = gm := e; omega).below hba
              have hbws : Below w.heap.size w (ws.alloc (.cells #[.slice A5 (n2 + 1) c5, .int .i64 xn] 28)) := (hot.below hbw5 (fun k e => by have e : k = gm := e; omega) hbw5.size).alloc (by rw [hzs]; exact hbw5.size) _
              have hoa : Only ws (ws.alloc (.cells #[.slice A5 (n2 + 1) c5, .int .i64 xn] 28)) (DkS g v) := (Only.refl ws _).alloc _
              have hza : (ws.alloc (.cells #[.slice A5 (n2 + 1) c5, .int .i64 xn] 28)).heap.size = ws.heap.size + 1 := by simp
              have HWS := Lib.hid hws
              rw [← hws]
              clear hws
              generalize ws.alloc (.cells #[.slice A5 (n2 + 1) c5, .int .i64 xn] 28) = wb at *
              refine (cput_ok hcs (by simp; omega) xn htl B m cB xp false hsBs (by omega)).mono ?_
              rintro e w7 ⟨rfl, v7, S7, hc7, ho7, hs7⟩
              rw [show L'.map strip ++ [strip ⟨xn, xp, false⟩] = (L' ++ ([⟨xn, xp, false⟩] : List Ver)).map strip by simp] at hc7
              have hbw7 := hcs.belows hbws ho7 hz1
              have htw7 := htw.move hb5 hmd5 (fun k hk => (hms5 k hk).imp id .inr) HWS.out (htw.asc.push ⟨xn, xp, false⟩ htl) hc7 (hoa.trans ho7 fun _ _ h => h) (fun k hk => (hs7 k hk).imp id fun e => by omega)
              have hlen7 : (L' ++ [(⟨xn, xp, false⟩ : Ver)]).length ≤ k + 1 := by simp; omega
              have hrow7 : ∀ x ∈ L' ++ [(⟨xn, xp, false⟩ : Ver)], x.row.length ≤ 30 := by
                intro x hx
                rcases List.mem_append.1 hx with hx | hx
                · exact hrow x hx
                · simp at hx; subst hx; have := hsB0.1; simp only; omega
              clear hcs hsBs hbws hoa hbw hbw5 htw ht5 hot hsB hsB5 m0 m1 mf0 mf1 x05 x25 hb5 hba hc7 ho7 hs7 hmd5 hms5
              go_wp2
              go_meet
              exact ⟨_, _, _, _, _, _, _, _, htw7, hlen7, hrow7, hbw7⟩
            · skip
              have y0 := htw.m0
              have y1 := htw.m1
              go_wp2_with fail
              refine (rcput_bad (w := w4) (t := xn) (last := last) (by omega) (.slice B m cB) false A2 n2 c2 rfl).mono ?_
              rintro e w5 ⟨rfl, hb5⟩
              have ht5 := htw.below hb5
              have m0 := ht5.m0
              have m1 := ht5.m1
              have mf0 := ht5.mf 0
              have mf1 := ht5.mf 1
              have hgl := ht5.lt
              have hgne : gm ≠ w5.heap.size := by omega
              have x05 := cell_below hb5 x0
              have x25 := cell_below hb5 x2
              have hbl5 : b0 < w5.heap.size := World.block_lt_of_cell? w5 _ x05
              have hbne : b0 ≠ w5.heap.size := by omega
              have hb5s := hb5.size
              have hsB5 := hsB.below hb5
              have hgmB := htw.hB
              have hbw5 := Below.next' hbw hb5 hbw.size
              clear x0 x2 y0 y1
              go_wp2_with fail
              have hot := only_two w5 gm (.slice A2 n2 c2) (.int .i64 last)
              obtain ⟨ws, hws⟩ : ∃ ws, ws = ((w5.setCell ⟨gm, 0, none⟩ (.slice A2 n2 c2)).setCell ⟨gm, 1, none⟩ (.int .i64 last)) := ⟨_, rfl⟩
              rw [← hws] at hot
              have hzs : ws.heap.size = w5.heap.size := by rw [hws]; simp [World.setCell]
              have hba : Below ws.heap.size ws (ws.alloc (.cells #[.slice A2 n2 c2, .int .i64 last] 28)) := (Below.refl _ _).alloc (Nat.le_refl _) _
              have hcs := (ht5.ch.only hot fun k hk e => ht5.hm (by rw [← e]; exact hk)).below hba
              have hsBs := (hsB5.only hot fun hn0 a0 ha0 e => by have := hsB0.lt hn0 a0 ha0; have := hbw.size; have e : a0.block = gm := e; omega).below hba
              have hbws : Below w.heap.size w (ws.alloc (.cells #[.slice A2 n2 c2, .int .i64 last] 28)) := (hot.below hbw5 (fun k e => by have e : k = gm := e; omega) hbw5.size).alloc (by rw [hzs]; exact hbw5.size) _
              have hoa : Only ws (ws.alloc (.cells #[.slice A2 n2 c2, .int .i64 last] 28)) (DkS g v) := (Only.refl ws _).alloc _
              have hza : (ws.alloc (.cells #[.slice A2 n2 c2, .int .i64 last] 28)).heap.size = ws.heap.size + 1 := by simp
              have HWS := Lib.hid hws
              rw [← hws]
              clear hws
              generalize ws.alloc (.cells #[.slice A2 n2 c2, .int .i64 last] 28) = wb at *
              refine (cput_bad hcs xn (by omega) _ _).mono ?_
              rintro e w7 ⟨rfl, rfl⟩
              have hbw7 := hbws
              have htw7 := htw.move hb5 ht5.md (fun k hk => .inr hk) HWS.out htw.asc hcs hoa (fun k hk => .inl hk)
              have hlen7 : L'.length ≤ k + 1 := by omega
              have hrow7 := hrow
              clear hcs hsBs hbws hoa hbw hbw5 htw ht5 hot hsB hsB5 m0 m1 mf0 mf1 x05 x25 hb5 hba
              go_wp2
              go_meet
              exact ⟨_, _, _, _, _, _, _, _, htw7, hlen7, hrow7, hbw7⟩
          · by_cases htl : last < xn
            · skip
              have y0 := htw.m0
              have y1 := htw.m1
              go_wp2_with fail
              refine (rcput_ok htw.md (by omega) htl B m cB xp false hsB (by omega)).mono ?_
              rintro e w5 ⟨A5, c5, S5, rfl, hmd5, hb5, hms5⟩
              have ht5 := htw.below hb5
              have m0 := ht5.m0
              have m1 := ht5.m1
              have mf0 := ht5.mf 0
              have mf1 := ht5.mf 1
              have hgl := ht5.lt
              have hgne : gm ≠ w5.heap.size := by omega
              have x05 := cell_below hb5 x0
              have x25 := cell_below hb5 x2
              have hbl5 : b0 < w5.heap.size := World.block_lt_of_cell? w5 _ x05
              have hbne : b0 ≠ w5.heap.size := by omega
              have hb5s := hb5.size
              have hsB5 := hsB.below hb5
              have hgmB := htw.hB
              have hbw5 := Below.next' hbw hb5 hbw.size
              clear x0 x2 y0 y1
              go_wp2_with fail
              have hot := only_two w5 gm (.slice A5 (n2 + 1) c5) (.int .i64 xn)
              obtain ⟨ws, hws⟩ : ∃ ws, ws = ((w5.setCell ⟨gm, 0, none⟩ (.slice A5 (n2 + 1) c5)).setCell ⟨gm, 1, none⟩ (.int .i64 xn)) := ⟨_, rfl⟩
              rw [← hws] at hot
              have hzs : ws.heap.size = w5.heap.size := by rw [hws]; simp [World.setCell]
              have hba : Below ws.heap.size ws (ws.alloc (.cells #[.slice A5 (n2 + 1) c5, .int .i64 xn] 28)) := (Below.refl _ _).alloc (Nat.le_refl _) _
              have hcs := (ht5.ch.only hot fun k hk e => ht5.hm (by rw [← e]; exact hk)).below hba
              have hsBs := (hsB5.only hot fun hn0 a0 ha0 e => by have := hsB0.lt hn0 a0 ha0; have := hbw.size; have e : a0.block = gm := e; omega).below hba
              have hbws : Below w.heap.size w (ws.alloc (.cells #[.slice A5 (n2 + 1) c5, .int .i64 xn] 28)) := (hot.below hbw5 (fun k e => by have e : k = gm := e; omega) hbw5.size).alloc (by rw [hzs]; exact hbw5.size) _
              have hoa : Only ws (ws.alloc (.cells #[.slice A5 (n2 + 1) c5, .int .i64 xn] 28)) (DkS g v) := (Only.refl ws _).alloc _
              have hza : (ws.alloc (.cells #[.slice A5 (n2 + 1) c5, .int .i64 xn] 28)).heap.size = ws.heap.size + 1 := by simp
              have HWS := Lib.hid hws
              rw [← hws]
              clear hws
              generalize ws.alloc (.cells #[.slice A5 (n2 + 1) c5, .int .i64 xn] 28) = wb at *
              refine (cput_ok hcs (by simp; omega) xn htl B m cB xp false hsBs (by omega)).mono ?_
              rintro e w7 ⟨rfl, v7, S7, hc7, ho7, hs7⟩
              rw [show L'.map strip ++ [strip ⟨xn, xp, false⟩] = (L' ++ ([⟨xn, xp, false⟩] : List Ver)).map strip by simp] at hc7
              have hbw7 := hcs.belows hbws ho7 hz1
              have htw7 := htw.move hb5 hmd5 (fun k hk => (hms5 k hk).imp id .inr) HWS.out (htw.asc.push ⟨xn, xp, false⟩ htl) hc7 (hoa.trans ho7 fun _ _ h => h) (fun k hk => (hs7 k hk).imp id fun e => by omega)
              have hlen7 : (L' ++ [(⟨xn, xp, false⟩ : Ver)]).length ≤ k + 1 := by simp; omega
              have hrow7 : ∀ x ∈ L' ++ [(⟨xn, xp, false⟩ : Ver)], x.row.length ≤ 30 := by
                intro x hx
                rcases List.mem_append.1 hx with hx | hx
                · exact hrow x hx
                · simp at hx; subst hx; have := hsB0.1; simp only; omega
              clear hcs hsBs hbws hoa hbw hbw5 htw ht5 hot hsB hsB5 m0 m1 mf0 mf1 x05 x25 hb5 hba hc7 ho7 hs7 hmd5 hms5
              go_wp2
              go_meet
              exact ⟨_, _, _, _, _, _, _, _, htw7, hlen7, hrow7, hbw7⟩
            · skip
              have y0 := htw.m0
              have y1 := htw.m1
              go_wp2_with fail
              refine (rcput_bad (w := w4) (t := xn) (last := last) (by omega) (.slice B m cB) false A2 n2 c2 rfl).mono ?_
              rintro e w5 ⟨rfl, hb5⟩
              have ht5 := htw.below hb5
              have m0 := ht5.m0
              have m1 := ht5.m1
              have mf0 := ht5.mf 0
              have mf1 := ht5.mf 1
              have hgl := ht5.lt
              have hgne : gm ≠ w5.heap.size := by omega
              have x05 := cell_below hb5 x0
              have x25 := cell_below hb5 x2
              have hbl5 : b0 < w5.heap.size := World.block_lt_of_cell? w5 _ x05
              have hbne : b0 ≠ w5.heap.size := by omega
              have hb5s := hb5.size
              have hsB5 := hsB.below hb5
              have hgmB := htw.hB
              have hbw5 := Below.next' hbw hb5 hbw.size
              clear x0 x2 y0 y1
              go_wp2_with fail
              have hot := only_two w5 gm (.slice A2 n2 c2) (.int .i64 last)
              obtain ⟨ws, hws⟩ : ∃ ws, ws = ((w5.setCell ⟨gm, 0, none⟩ (.slice A2 n2 c2)).setCell ⟨gm, 1, none⟩ (.int .i64 last)) := ⟨_, rfl⟩
              rw [← hws] at hot
              have hzs : ws.heap.size = w5.heap.size := by rw [hws]; simp [World.setCell]
              have hba : Below ws.heap.size ws (ws.alloc (.cells #[.slice A2 n2 c2, .int .i64 last] 28)) := (Below.refl _ _).alloc (Nat.le_refl _) _
              have hcs := (ht5.ch.only hot fun k hk e => ht5.hm (by rw [← e]; exact hk)).below hba
              have hsBs := (hsB5.only hot fun hn0 a0 ha0 e => by have := hsB0.lt hn0 a0 ha0; have := hbw.size; have e : a0.block = gm := e; omega).below hba
              have hbws : Below w.heap.size w (ws.alloc (.cells #[.slice A2 n2 c2, .int .i64 last] 28)) := (hot.below hbw5 (fun k e => by have e : k = gm := e; omega) hbw5.size).alloc (by rw [hzs]; exact hbw5.size) _
              have hoa : Only ws (ws.alloc (.cells #[.slice A2 n2 c2, .int .i64 last] 28)) (DkS g v) := (Only.refl ws _).alloc _
              have hza : (ws.alloc (.cells #[.slice A2 n2 c2, .int .i64 last] 28)).heap.size = ws.heap.size + 1 := by simp
              have HWS := Lib.hid hws
              rw [← hws]
              clear hws
              generalize ws.alloc (.cells #[.slice A2 n2 c2, .int .i64 last] 28) = wb at *
              refine (cput_bad hcs xn (by omega) _ _).mono ?_
              rintro e w7 ⟨rfl, rfl⟩
              have hbw7 := hbws
              have htw7 := htw.move hb5 ht5.md (fun k hk => .inr hk) HWS.out htw.asc hcs hoa (fun k hk => .inl hk)
              have hlen7 : L'.length ≤ k + 1 := by omega
              have hrow7 := hrow
              clear hcs hsBs hbws hoa hbw hbw5 htw ht5 hot hsB hsB5 m0 m1 mf0 mf1 x05 x25 hb5 hba
              go_wp2
              go_meet
              exact ⟨_, _, _, _, _, _, _, _, htw7, hlen7, hrow7, hbw7⟩
          · by_cases htl : last < xn
            · skip
              have y0 := htw.m0
              have y1 := htw.m1
              go_wp2_with fail
              refine (rcput_ok htw.md (by omega) htl B m cB xp true hsB (by omega)).mono ?_
              rintro e w5 ⟨A5, c5, S5, rfl, hmd5, hb5, hms5⟩
              have ht5 := htw.below hb5
              have m0 := ht5.m0
              have m1 := ht5.m1
              have mf0 := ht5.mf 0
              have mf1 := ht5.mf 1
              have hgl := ht5.lt
              have hgne : gm ≠ w5.heap.size := by omega
              have x05 := cell_below hb5 x0
              have x25 := cell_below hb5 x2
              have hbl5 : b0 < w5.heap.size := World.block_lt_of_cell? w5 _ x05
              have hbne : b0 ≠ w5.heap.size := by omega
              have hb5s := hb5.size
              have hsB5 := hsB.below hb5
              have hgmB := htw.hB
              have hbw5 := Below.next' hbw hb5 hbw.size
              clear x0 x2 y0 y1
              go_wp2_with fail
              have hot := only_two w5 gm (.slice A5 (n2 + 1) c5) (.int .i64 xn)
              obtain ⟨ws, hws⟩ : ∃ ws, ws = ((w5.setCell ⟨gm, 0, none⟩ (.slice A5 (n2 + 1) c5)).setCell ⟨gm, 1, none⟩ (.int .i64 xn)) := ⟨_, rfl⟩
              rw [← hws] at hot
              have hzs : ws.heap.size = w5.heap.size := by rw [hws]; simp [World.setCell]
              have hba : Below ws.heap.size ws (ws.alloc (.cells #[.slice A5 (n2 + 1) c5, .int .i64 xn] 28)) := (Below.refl _ _).alloc (Nat.le_refl _) _
              have hcs := (ht5.ch.only hot fun k hk e => ht5.hm (by rw [← e]; exact hk)).below hba
              have hsBs := (hsB5.only hot fun hn0 a0 ha0 e => by have := hsB0.lt hn0 a0 ha0; have := hbw.size; have e : a0.block = gm := e; omega).below hba
              have hbws : Below w.heap.size w (ws.alloc (.cells #[.slice A5 (n2 + 1) c5, .int .i64 xn] 28)) := (hot.below hbw5 (fun k e => by have e : k = gm := e; omega) hbw5.size).alloc (by rw [hzs]; exact hbw5.size) _
              have hoa : Only ws (ws.alloc (.cells #[.slice A5 (n2 + 1) c5, .int .i64 xn] 28)) (DkS g v) := (Only.refl ws _).alloc _
              have hza : (ws.alloc (.cells #[.slice A5 (n2 + 1) c5, .int .i64 xn] 28)).heap.size = ws.heap.size + 1 := by simp
              have HWS := Lib.hid hws
              rw [← hws]
              clear hws
              generalize ws.alloc (.cells #[.slice A5 (n2 + 1) c5, .int .i64 xn] 28) = wb at *
              refine (cput_ok hcs (by simp; omega) xn htl B m cB xp true hsBs (by omega)).mono ?_
              rintro e w7 ⟨rfl, v7, S7, hc7, ho7, hs7⟩
              rw [show L'.map strip ++ [strip ⟨xn, xp, true⟩] = (L' ++ ([⟨xn, xp, true⟩] : List Ver)).map strip by simp] at hc7
              have hbw7 := hcs.belows hbws ho7 hz1
              have htw7 := htw.move hb5 hmd5 (fun k hk => (hms5 k hk).imp id .inr) HWS.out (htw.asc.push ⟨xn, xp, true⟩ htl) hc7 (hoa.trans ho7 fun _ _ h => h) (fun k hk => (hs7 k hk).imp id fun e => by omega)
              have hlen7 : (L' ++ [(⟨xn, xp, true⟩ : Ver)]).length ≤ k + 1 := by simp; omega
              have hrow7 : ∀ x ∈ L' ++ [(⟨xn, xp, true⟩ : Ver)], x.row.length ≤ 30 := by
                intro x hx
                rcases List.mem_append.1 hx with hx | hx
                · exact hrow x hx
                · simp at hx; subst hx; have := hsB0.1; simp only; omega
              clear hcs hsBs hbws hoa hbw hbw5 htw ht5 hot hsB hsB5 m0 m1 mf0 mf1 x05 x25 hb5 hba hc7 ho7 hs7 hmd5 hms5
              go_wp2
              go_meet
              exact ⟨_, _, _, _, _, _, _, _, htw7, hlen7, hrow7, hbw7⟩
            · skip
              have y0 := htw.m0
              have y1 := htw.m1
              go_wp2_with fail
              refine (rcput_bad (w := w4) (t := xn) (last := last) (by omega) (.slice B m cB) true A2 n2 c2 rfl).mono ?_
              rintro e w5 ⟨rfl, hb5⟩
              have ht5 := htw.below hb5
              have m0 := ht5.m0
              have m1 := ht5.m1
              have mf0 := ht5.mf 0
              have mf1 := ht5.mf 1
              have hgl := ht5.lt
              have hgne : gm ≠ w5.heap.size := by omega
              have x05 := cell_below hb5 x0
              have x25 := cell_below hb5 x2
              have hbl5 : b0 < w5.heap.size := World.block_lt_of_cell? w5 _ x05
              have hbne : b0 ≠ w5.heap.size := by omega
              have hb5s := hb5.size
              have hsB5 := hsB.below hb5
              have hgmB := htw.hB
              have hbw5 := Below.next' hbw hb5 hbw.size
              clear x0 x2 y0 y1
              go_wp2_with fail
              have hot := only_two w5 gm (.slice A2 n2 c2) (.int .i64 last)
              obtain ⟨ws, hws⟩ : ∃ ws, ws = ((w5.setCell ⟨gm, 0, none⟩ (.slice A2 n2 c2)).setCell ⟨gm, 1, none⟩ (.int .i64 last)) := ⟨_, rfl⟩
              rw [← hws] at hot
              have hzs : ws.heap.size = w5.heap.size := by rw [hws]; simp [World.setCell]
              have hba : Below ws.heap.size ws (ws.alloc (.cells #[.slice A2 n2 c2, .int .i64 last] 28)) := (Below.refl _ _).alloc (Nat.le_refl _) _
              have hcs := (ht5.ch.only hot fun k hk e => ht5.hm (by rw [← e]; exact hk)).below hba
              have hsBs := (hsB5.only hot fun hn0 a0 ha0 e => by have := hsB0.lt hn0 a0 ha0; have := hbw.size; have e : a0.block = gm := e; omega).below hba
              have hbws : Below w.heap.size w (ws.alloc (.cells #[.slice A2 n2 c2, .int .i64 last] 28)) := (hot.below hbw5 (fun k e => by have e : k = gm := e; omega) hbw5.size).alloc (by rw [hzs]; exact hbw5.size) _
              have hoa : Only ws (ws.alloc (.cells #[.slice A2 n2 c2, .int .i64 last] 28)) (DkS g v) := (Only.refl ws _).alloc _
              have hza : (ws.alloc (.cells #[.slice A2 n2 c2, .int .i64 last] 28)).heap.size = ws.heap.size + 1 := by simp
              have HWS := Lib.hid hws
              rw [← hws]
              clear hws
              generalize ws.alloc (.cells #[.slice A2 n2 c2, .int .i64 last] 28) = wb at *
              refine (cput_bad hcs xn (by omega) _ _).mono ?_
              rintro e w7 ⟨rfl, rfl⟩
              have hbw7 := hbws
              have htw7 := htw.move hb5 ht5.md (fun k hk => .inr hk) HWS.out htw.asc hcs hoa (fun k hk => .inl hk)
              have hlen7 : L'.length ≤ k + 1 := by omega
              have hrow7 := hrow
              clear hcs hsBs hbws hoa hbw hbw5 htw ht5 hot hsB hsB5 m0 m1 mf0 mf1 x05 x25 hb5 hba
              go_wp2
              go_meet
              exact ⟨_, _, _, _, _, _, _, _, htw7, hlen7, hrow7, hbw7⟩
          · skip
            have y0 := htw.m0
            have y1 := htw.m1
            go_wp2_with fail
            refine (rctrim_any htw.md htw.asc (by omega) xn).mono ?_
            have hTl := trimN_le L' xn
            have hTM := trimN_map L' xn
            obtain ⟨T, hT⟩ : ∃ T, trimN L' xn = T := ⟨_, rfl⟩
            rw [hT] at hTl hTM ⊢
            rintro e w5 ⟨A5, c5, rfl, hmd5, hb5, hms5⟩
            obtain ⟨n5, hn5⟩ : ∃ n5, n2 - T = n5 := ⟨_, rfl⟩
            rw [hn5] at hmd5 hms5 ⊢
            have hct := fun (W : World) (h : Ch W w1.heap.size g v S (L'.map strip) last) => ctrim_any h (by simp; omega) xn
            rw [hTM] at hct
            have HCT := Lib.hid hct
            have hlen7 : (L'.drop T).length ≤ k + 1 := by rw [List.length_drop]; omega
            have hrow7 : ∀ x ∈ L'.drop T, x.row.length ≤ 30 := fun x hx => hrow x (List.mem_of_mem_drop hx)
            clear hT hTM hct hn5
            have ht5 := htw.below hb5
            have m0 := ht5.m0
            have m1 := ht5.m1
            have mf0 := ht5.mf 0
            have mf1 := ht5.mf 1
            have hgl := ht5.lt
            have hgne : gm ≠ w5.heap.size := by omega
            have hgmB := htw.hB
            have hbw5 := Below.next' hbw hb5 hbw.size
            clear x0 x2 y0 y1
            go_wp2_with fail
            have hot := only_two w5 gm (.slice A5 n5 c5) (.int .i64 last)
            obtain ⟨ws, hws⟩ : ∃ ws, ws = ((w5.setCell ⟨gm, 0, none⟩ (.slice A5 n5 c5)).setCell ⟨gm, 1, none⟩ (.int .i64 last)) := ⟨_, rfl⟩
            rw [← hws] at hot
            have hzs : ws.heap.size = w5.heap.size := by rw [hws]; simp [World.setCell]
            have hba : Below ws.heap.size ws (ws.alloc (.cells #[.slice A5 n5 c5, .int .i64 last] 28)) := (Below.refl _ _).alloc (Nat.le_refl _) _
            have hcs := (ht5.ch.only hot fun k hk e => ht5.hm (by rw [← e]; exact hk)).below hba
            have hbws : Below w.heap.size w (ws.alloc (.cells #[.slice A5 n5 c5, .int .i64 last] 28)) := (hot.below hbw5 (fun k e => by have e : k = gm := e; omega) hbw5.size).alloc (by rw [hzs]; exact hbw5.size) _
            have hoa : Only ws (ws.alloc (.cells #[.slice A5 n5 c5, .int .i64 last] 28)) (DkS g v) := (Only.refl ws _).alloc _
            have hza : (ws.alloc (.cells #[.slice A5 n5 c5, .int .i64 last] 28)).heap.size = ws.heap.size + 1 := by simp
            have HWS := Lib.hid hws
            rw [← hws]
            clear hws
            generalize ws.alloc (.cells #[.slice A5 n5 c5, .int .i64 last] 28) = wb at *
            refine (HCT.out wb hcs).mono ?_
            rintro e w7 ⟨rfl, v7, hc7, ho7, hv7⟩
            rw [← List.map_drop] at hc7
            have hbw7 := hcs.belows hbws ho7 hz1
            have htw7 := htw.move hb5 hmd5 (fun k hk => .inr (hms5 k hk)) HWS.out (htw.asc.drop T) hc7 (hoa.trans ho7 fun _ _ h => h) (fun k hk => by
              rcases hk with (hk | hk) | hk
              · exact .inl (.inl (.inl hk))
              · exact .inl (.inl (.inr (hv7 k hk)))
              · exact .inl (.inr hk.drop))
            clear hcs hbws hoa hbw hbw5 htw ht5 hot hsB m0 m1 mf0 mf1 hb5 hba hc7 ho7 hv7 hmd5 hms5
            go_wp2
            go_meet
            exact ⟨_, _, _, _, _, _, _, _, htw7, hlen7, hrow7, hbw7⟩
          · skip
            have hl7 : L'.length ≤ k + 1 := by omega
            go_wp2
            go_meet
            exact ⟨_, _, _, _, _, _, _, _, htw, hl7, hrow, hbw⟩
        case rest =>
          obtain ⟨n2, c2, v, S, S2, A2, L', last, htw, hlk, hrow, hbw⟩ := hcut
          obtain ⟨w9, hw9⟩ : ∃ w9, wc = w9 := ⟨_, rfl⟩
          rw [hw9] at htw hbw ⊢
          clear hw9 hc eq6 eq6t hbne0 hbc0
          have hln2 : L'.length = n2 := htw.md.len
          go_wp2_with fail
          go_loopw [14, 15, 16, 17, 18] (fun i _ _ _ _ w' => ∃ j : Nat, j ≤ 11 ∧ i = .int .i64 (4 * (j : Int) - 2) ∧ Tw w' w1.heap.size g gm v S A2 n2 c2 S2 L' last ∧ Below w.heap.size w w') (fun i _ _ _ _ _ => 11 - ((intOf i + 2) / 4).toNat)
          case atStart => exact ⟨0, by omega, rfl, htw, hbw⟩
          case round =>
            clear htw hbw
            obtain ⟨j, hj, rfl, htw, hbw⟩ := hrel
            by_cases hlt2 : j < 11
            · obtain ⟨K, hK⟩ : ∃ K, 4 * (j : Int) - 2 = K := ⟨_, rfl⟩
              have dK : decide (K < 42) = true := decide_eq_true (by omega)
              have eK : K + 4 = 4 * ((j + 1 : Nat) : Int) - 2 := by omega
              have bK : -2 ≤ K ∧ K ≤ 38 := by omega
              rw [hK]
              have y0 := htw.m0
              have y1 := htw.m1
              have hgt := htw.get (by omega) hrow K
              have hrt := fun (W : World) (h : Md W A2 n2 c2 S2 L') => rcget_any h htw.asc (by omega) K
              obtain ⟨r, hr⟩ : ∃ r, getV L' K = r := ⟨_, rfl⟩
              rw [hr] at hgt hrt
              have HRT := Lib.hid hrt
              clear hr hrt
              obtain ⟨rl, rb⟩ := r
              have hbb : (rb != rb) = false := by simp
              clear y0 y1
              go_wp2_with fail
              refine hgt.mono ?_
              rintro e w5 ⟨B5, m5, d5, rfl, hs5, hm5, hb5⟩
              have ht5 := htw.below hb5
              have hbw5 := Below.next' hbw hb5 hbw.size
              have y0 := ht5.m0
              have y1 := ht5.m1
              clear htw hbw hb5 hgt
              go_wp2_with fail
              refine (HRT.out w5 ht5.md).mono ?_
              rintro e w6 ⟨B6, m6, d6, rfl, hs6, _, _, hb6⟩
              have ht6 := ht5.below hb6
              have hs56 := hs5.below hb6
              have hbw6 := Below.next' hbw5 hb6 hbw5.size
              clear ht5 hbw5 hb6 hs5 y0 y1 HRT
              go_wp2_with fail
              refine (bytes_any B5 B6 m5 m6 d5 d6 rl rl _ hs56 hs6 hm5).mono ?_
              rintro e w7 ⟨rfl, u, rfl⟩
              rw [show (rl == rl) = true by simp]
              have ht7 := ht6.drewN u
              have hbw7 := Below.drewP hbw6 u
              clear ht6 hbw6 hs56 hs6
              generalize w6.drewN u = w7 at *
              have HK := Lib.hid hK
              clear hK
              go_wp2
              go_roundw
              case rel => exact ⟨j + 1, hlt2, by rw [← eK]; go_num, ht7, hbw7⟩
              case measure => have := HK.out; simp [intOf]; omega
            · obtain rfl : j = 11 := by omega
              have dK : decide (4 * ((11 : Nat) : Int) - 2 < 42) = false := by decide
              clear hlt2
              have y0 := htw.m0
              have y1 := htw.m1
              have hgt := htw.get (by omega) hrow xn
              have hrt := fun (W : World) (h : Md W A2 n2 c2 S2 L') => rcget_any h htw.asc (by omega) xn
              obtain ⟨r, hr⟩ : ∃ r, getV L' xn = r := ⟨_, rfl⟩
              rw [hr] at hgt hrt
              have HRT := Lib.hid hrt
              clear hr hrt
              obtain ⟨rl, rb⟩ := r
              have hbb : (rb != rb) = false := by simp
              clear y0 y1
              go_wp2_with fail
              refine hgt.mono ?_
              rintro e w5 ⟨B5, m5, d5, rfl, hs5, hm5, hb5⟩
              have ht5 := htw.below hb5
              have hbw5 := Below.next' hbw hb5 hbw.size
              have y0 := ht5.m0
              have y1 := ht5.m1
              clear htw hbw hb5 hgt
              go_wp2_with fail
              refine (HRT.out w5 ht5.md).mono ?_
              rintro e w6 ⟨B6, m6, d6, rfl, hs6, _, _, hb6⟩
              have ht6 := ht5.below hb6
              have hs56 := hs5.below hb6
              have hbw6 := Below.next' hbw5 hb6 hbw5.size
              clear ht5 hbw5 hb6 hs5 y0 y1 HRT
              have y0 := ht6.m0
              have y1 := ht6.m1
              go_wp2_with fail
              have k0 := fun d os => cell_regrown y0 d os
              have k1 := fun d os => cell_regrown y1 d os
              have kby := fun d os => (bytes_any B5 B6 m5 m6 d5 d6 rl rl _ (hs56.below (below_regrown w6 d os)) (hs6.below (below_regrown w6 d os)) hm5).mono (R' := fun e w' => e = .returned (.bool true) ∧ Below (Go.Sort.grow (redrawn w6 d) os).heap.size (Go.Sort.grow (redrawn w6 d) os) w') (by rintro e w' ⟨rfl, u, rfl⟩; exact ⟨by simp, Below.drewP (Below.refl _ _) u⟩)
              have kla := fun d os => (clast_any (ht6.ch.below (below_regrown w6 d os))).mono (R' := fun e w' => e = .returned (.int .i64 last) ∧ Below (Go.Sort.grow (redrawn w6 d) os).heap.size (Go.Sort.grow (redrawn w6 d) os) w') (by rintro e w' ⟨rfl, rfl⟩; exact ⟨rfl, Below.refl _ _⟩)
              have kle := fun d os => (clen_any (ht6.ch.below (below_regrown w6 d os))).mono (R' := fun e w' => e = .returned (.int .i64 (n2 : Int)) ∧ Below (Go.Sort.grow (redrawn w6 d) os).heap.size (Go.Sort.grow (redrawn w6 d) os) w') (by rintro e w' ⟨rfl, rfl⟩; exact ⟨by simp [hln2], Below.refl _ _⟩)
              have KBY := Lib.hid kby
              have KLA := Lib.hid kla
              have KLE := Lib.hid kle
              clear kby kla kle y0 y1
              refine wp_region_quiet_below (by kernel_rfl) (by kernel_rfl) ?_
              repeat (go_big_quiet_step ((first | with_reducible exact Calls.regrown_of (KBY.out _ _) | with_reducible exact Calls.regrown_of (KLA.out _ _) | with_reducible exact Calls.regrown_of (KLE.out _ _))))
              refine wpQuiet_nil ?_
              rintro w' ⟨⟨dq, osq⟩, rfl⟩
              have hbq := below_regrown w6 dq osq
              have htq := ht6.below hbq
              have hbwq := Below.next' hbw6 hbq hbw6.size
              clear k0 k1 KBY KLA KLE ht6 hs56 hs6 hbw6 hbq
              simp only
              generalize Go.Sort.grow (redrawn w6 dq) osq = w8 at *
              go_wp2
              go_roundw
              case rel => exact ⟨k + 1, _, _, _, _, _, _, _, _, hlt, by go_num, htq, hlk, hrow, hbwq⟩
              case measure => simp [intOf]; omega
      · have dm : decide ((30 : Int) < (m : Int)) = true := decide_eq_true (by omega)
        have hbf := hbw.alloc hbw.size (.cells #[.int .u8 (xd : Int), .int .i64 xn, .slice B m cB] 31)
        clear htw hsB
        go_wp2
        go_ret
        exact ⟨rfl, hbf⟩
    · obtain rfl : n = k := by omega
      go_wp2
      go_ret
      exact ⟨rfl, hbw⟩

set_option maxRecDepth 8000 in
set_option maxHeartbeats 80000000 in
theorem chainPlays_core1 (A : Option Addr) (n c : Nat) (L : List DAct) (w : World) (ha : SegDA w A n L) (h1 : n ≤ 60) :
    Calls Try.prog 3 #[.slice A n c, .bool true] w fun e w' => e = .returned (.bool true) ∧ Below w.heap.size w w' := by
  have d0 : decide ((60 : Int) < (n : Int)) = false := decide_eq_false (by omega)
  go_enter Try.func3, Try.ntmps3
  go_wp2_with fail
  refine (gone_any _).mono ?_
  rintro e w1 ⟨rfl, hb1⟩
  go_wp2_with fail
  refine (cnew_any _).mono ?_
  rintro e w2 ⟨g, rfl, hc2, hb2, hgw⟩
  clear hgw
  have hbw2 := Below.next' hb1 hb2 hb1.size
  have hz1 := hb1.size
  have hz2 := hb2.size
  have hgl2 := hc2.lt g (.inl (.inl rfl))
  have ha2 : Below w2.heap.size w2 (w2.alloc (.cells #[.slice none 0 0, .int .i64 0] 28)) := (Below.refl _ _).alloc (Nat.le_refl _) _
  have ht2 : Tw (w2.alloc (.cells #[.slice none 0 0, .int .i64 0] 28)) w1.heap.size g w2.heap.size (.slice none 0 0) [] none 0 0 [] [] 0 :=
    ⟨hc2.below ha2, by simp, by simp, fun j => by simp, Md.nil _, fun k hk => by
      rcases hk with ⟨h, _⟩ | ⟨s, hs, _⟩
      · omega
      · simp at hs, fun h => by have := ChS.nil h; omega, hz2, Asc.nil⟩
  have hbw3 := Below.next' hbw2 ha2 hbw2.size
  clear hc2 hb1 hb2 hbw2 ha2
  obtain ⟨gm, hgm⟩ : ∃ gm, w2.heap.size = gm := ⟨_, rfl⟩
  obtain ⟨w3, hw3⟩ : ∃ w3, w3 = w2.alloc (.cells #[.slice none 0 0, .int .i64 0] 28) := ⟨_, rfl⟩
  rw [← hw3, hgm] at ht2
  rw [← hw3] at hbw3
  have HW3 := Lib.hid hw3
  have HGM := Lib.hid hgm
  clear hw3 hgm
  go_upto_region 5 with fail
  rw [← HW3.out, HGM.out]
  clear HW3 HGM hz2 hgl2
  go_wp2_with fail
  go_loopw [7, 8, 9, 10, 11, 12, 13, 14, 15, 16, 17, 18, 19, 20, 21, 22] (fun i _ _ _ _ _ _ _ _ _ _ _ _ _ _ _ w' => ∃ (k n2 c2 : Nat) (v : Value) (S S2 : List VerS) (A2 : Option Addr) (L' : List Ver) (last : Int), k ≤ n ∧ i = .int .i64 k ∧ Tw w' w1.heap.size g gm v S A2 n2 c2 S2 L' last ∧ L'.length ≤ k ∧ (∀ x ∈ L', x.row.length ≤ 30) ∧ Below w.heap.size w w') (fun i _ _ _ _ _ _ _ _ _ _ _ _ _ _ _ _ => n - (intOf i).toNat)
  case atStart => exact ⟨0, _, _, _, _, _, _, _, _, by omega, rfl, ht2, by simp, by simp, hbw3⟩
  case round =>
    clear ht2 hbw3
    obtain ⟨k, n2, c2, v, S, S2, A2, L', last, hk, rfl, htw, hlk, hrow, hbw⟩ := hrel
    by_cases hlt : k < n
    · obtain ⟨x, hx⟩ : ∃ x, L[k]'(by rw [ha.len]; exact hlt) = x := ⟨_, rfl⟩
      obtain ⟨gA, oA, B, m, cB, rfl, q0, q1, q2, hsB0, hmc, hcm, hxd, hxn0, hxn1⟩ := ha.at_ hlt x hx
      clear hx
      obtain ⟨xd, xn, xp⟩ := x
      simp only at q0 q1 hsB0 hxd hxn0 hxn1
      have q0 := cell_below hbw q0
      have q1 := cell_below hbw q1
      have q2 := cell_below hbw q2
      have hsB := hsB0.below hbw
      by_cases hm : m ≤ 30
      · have dm : decide ((30 : Int) < (m : Int)) = false := decide_eq_false (by omega)
        obtain ⟨q, hq⟩ : ∃ q, xd % 6 = q := ⟨_, rfl⟩
        have eq6 : (xd : Int) % 6 = (q : Int) := by omega
        have eq6t : (xd : Int).tmod 6 = (q : Int) := by rw [Int.tmod_eq_emod_of_nonneg (by omega)]; omega
        have hc : q = 0 ∨ q = 1 ∨ q = 2 ∨ q = 3 ∨ q = 4 ∨ q = 5 := by omega
        clear hq
        have hln2 : L'.length = n2 := htw.md.len
        obtain ⟨t, ht⟩ : ∃ t, xn.tmod 40 = t := ⟨_, rfl⟩
        have x0 : (wr.alloc (.cells #[.int .u8 (xd : Int), .int .i64 xn, .slice B m cB] 31)).cell? ⟨wr.heap.size, 0, none⟩ = some (.int .u8 (xd : Int)) := by simp
        have x1 : (wr.alloc (.cells #[.int .u8 (xd : Int), .int .i64 xn, .slice B m cB] 31)).cell? ⟨wr.heap.size, 1, none⟩ = some (.int .i64 xn) := by simp
        have x2 : (wr.alloc (.cells #[.int .u8 (xd : Int), .int .i64 xn, .slice B m cB] 31)).cell? ⟨wr.heap.size, 2, none⟩ = some (.slice B m cB) := by simp
        have htw4 := htw.alloc (.cells #[.int .u8 (xd : Int), .int .i64 xn, .slice B m cB] 31)
        have hsB4 := hsB.alloc (.cells #[.int .u8 (xd : Int), .int .i64 xn, .slice B m cB] 31)
        have hbw4 := hbw.alloc hbw.size (.cells #[.int .u8 (xd : Int), .int .i64 xn, .slice B m cB] 31)
        have hbne0 : wr.heap.size ≠ gm := fun e => by have := htw.lt; omega
        have hbc0 : ∀ k, ChS g v S k → k ≠ wr.heap.size := fun k hk e => by have := htw.ch.lt k hk; omega
        obtain ⟨b0, hb0⟩ : ∃ b, wr.heap.size = b := ⟨_, rfl⟩
        have HB := Lib.hid hb0
        obtain ⟨w4, hw4⟩ : ∃ w4, w4 = wr.alloc (.cells #[.int .u8 (xd : Int), .int .i64 xn, .slice B m cB] 31) := ⟨_, rfl⟩
        rw [← hw4, hb0] at x0 x1 x2
        rw [← hw4] at htw4 hsB4 hbw4
        rw [hb0] at hbne0 hbc0
        have HW4 := Lib.hid hw4
        clear htw hbw hsB hb0 hw4
        have htw := htw4; have hsB := hsB4; have hbw := hbw4
        clear htw4 hsB4 hbw4
        go_upto_region 14 with fail
        rw [← HW4.out, HB.out]
        clear q0 q1 q2 HW4 HB x1
        go_cut [53] (fun t53 wc => t53 = .int .u8 (q : Int) ∧ w4 = wc)
        case first =>
          go_wp2
          go_meet
          exact ⟨rfl, rfl⟩
        case rest =>
        obtain ⟨rfl, hwc⟩ := hcut
        subst hwc
        rename_i hKK
        refine hKK _ _ ?_
        go_cut [] (fun wc => ∃ (n2 c2 : Nat) (v : Value) (S S2 : List VerS) (A2 : Option Addr) (L' : List Ver) (last : Int), Tw wc w1.heap.size g gm v S A2 n2 c2 S2 L' last ∧ L'.length ≤ k + 1 ∧ (∀ x ∈ L', x.row.length ≤ 30) ∧ Below w.heap.size w wc)
        case first =>
          rcases hc with rfl | rfl | rfl | rfl | rfl | rfl
          · by_cases htl : last < t
            · skip
              have y0 := htw.m0
              have y1 := htw.m1
              go_wp2_with fail
              refine (rcput_ok htw.md (by omega) htl B m cB xp false hsB (by omega)).mono ?_
              rintro e w5 ⟨A5, c5, S5, rfl, hmd5, hb5, hms5⟩
              have ht5 := htw.below hb5
              have m0 := ht5.m0
              have m1 := ht5.m1
              have mf0 := ht5.mf 0
              have mf1 := ht5.mf 1
              have hgl := ht5.lt
              have hgne : gm ≠ w5.heap.size := by omega
              have x05 := cell_below hb5 x0
              have x25 := cell_below hb5 x2
              have hbl5 : b0 < w5.heap.size := World.block_lt_of_cell? w5 _ x05
              have hbne : b0 ≠ w5.heap.size := by omega
              have hb5s := hb5.size
              have hsB5 := hsB.below hb5
              have hgmB := htw.hB
              have hbw5 := Below.next' hbw hb5 hbw.size
              clear x0 x2 y0 y1
              go_wp2_with fail
              have hot := only_two w5 gm (.slice A5 (n2 + 1) c5) (.int .i64 t)
              obtain ⟨ws, hws⟩ : ∃ ws, ws = ((w5.setCell ⟨gm, 0, none⟩ (.slice A5 (n2 + 1) c5)).setCell ⟨gm, 1, none⟩ (.int .i64 t)) := ⟨_, rfl⟩
              rw [← hws] at hot
              have hzs : ws.heap.size = w5.heap.size := by rw [hws]; simp [World.setCell]
              have hba : Below ws.heap.size ws (ws.alloc (.cells #[.slice A5 (n2 + 1) c5, .int .i64 t] 28)) := (Below.refl _ _).alloc (Nat.le_refl _) _
              have hcs := (ht5.ch.only hot fun k hk e => ht5.hm (by rw [← e]; exact hk)).below hba
              have hsBs := (hsB5.only hot fun hn0 a0 ha0 e => by have := hsB0.lt hn0 a0 ha0; have := hbw.size; have e : a0.block = gm := e; omega).below hba
              have hbws : Below w.heap.size w (ws.alloc (.cells #[.slice A5 (n2 + 1) c5, .int .i64 t] 28)) := (hot.below hbw5 (fun k e => by have e : k = gm := e; omega) hbw5.size).alloc (by rw [hzs]; exact hbw5.size) _
              have hoa : Only ws (ws.alloc (.cells #[.slice A5 (n2 + 1) c5, .int .i64 t] 28)) (DkS g v) := (Only.refl ws _).alloc _
              have hza : (ws.alloc (.cells #[.slice A5 (n2 + 1) c5, .int .i64 t] 28)).heap.size = ws.heap.size + 1 := by simp
              have HWS := Lib.hid hws
              rw [← hws]
              clear hws
              generalize ws.alloc (.cells #[.slice A5 (n2 + 1) c5, .int .i64 t] 28) = wb at *
              refine (cput_ok hcs (by simp; omega) t htl B m cB xp false hsBs (by omega)).mono ?_
              rintro e w7 ⟨rfl, v7, S7, hc7, ho7, hs7⟩
              rw [show L'.map strip ++ [strip ⟨t, xp, false⟩] = (L' ++ ([⟨t, xp, false⟩] : List Ver)).map strip by simp] at hc7
              have hbw7 := hcs.belows hbws ho7 hz1
              have htw7 := htw.move hb5 hmd5 (fun k hk => (hms5 k hk).imp id .inr) HWS.out (htw.asc.push ⟨t, xp, false⟩ htl) hc7 (hoa.trans ho7 fun _ _ h => h) (fun k hk => (hs7 k hk).imp id fun e => by omega)
              have hlen7 : (L' ++ [(⟨t, xp, false⟩ : Ver)]).length ≤ k + 1 := by simp; omega
              have hrow7 : ∀ x ∈ L' ++ [(⟨t, xp, false⟩ : Ver)], x.row.length ≤ 30 := by
                intro x hx
                rcases List.mem_append.1 hx with hx | hx
                · exact hrow x hx
                · simp at hx; subst hx; have := hsB0.1; simp only; omega
              clear hcs hsBs hbws hoa hbw hbw5 htw ht5 hot hsB hsB5 m0 m1 mf0 mf1 x05 x25 hb5 hba hc7 ho7 hs7 hmd5 hms5
              go_wp2
              go_meet
              exact ⟨_, _, _, _, _, _, _, _, htw7, hlen7, hrow7, hbw7⟩
            · skip
              have y0 := htw.m0
              have y1 := htw.m1
              go_wp2_with fail
              refine (rcput_bad (w := w4) (t := t) (last := last) (by omega) (.slice B m cB) false A2 n2 c2 rfl).mono ?_
              rintro e w5 ⟨rfl, hb5⟩
              have ht5 := htw.below hb5
              have m0 := ht5.m0
              have m1 := ht5.m1
              have mf0 := ht5.mf 0
              have mf1 := ht5.mf 1
              have hgl := ht5.lt
              have hgne : gm ≠ w5.heap.size := by omega
              have x05 := cell_below hb5 x0
              have x25 := cell_below hb5 x2
              have hbl5 : b0 < w5.heap.size := World.block_lt_of_cell? w5 _ x05
              have hbne : b0 ≠ w5.heap.size := by omega
              have hb5s := hb5.size
              have hsB5 := hsB.below hb5
              have hgmB := htw.hB
              have hbw5 := Below.next' hbw hb5 hbw.size
              clear x0 x2 y0 y1
              go_wp2_with fail
              have hot := only_two w5 gm (.slice A2 n2 c2) (.int .i64 last)
              obtain ⟨ws, hws⟩ : ∃ ws, ws = ((w5.setCell ⟨gm, 0, none⟩ (.slice A2 n2 c2)).setCell ⟨gm, 1, none⟩ (.int .i64 last)) := ⟨_, rfl⟩
              rw [← hws] at hot
              have hzs : ws.heap.size = w5.heap.size := by rw [hws]; simp [World.setCell]
              have hba : Below ws.heap.size ws (ws.alloc (.cells #[.slice A2 n2 c2, .int .i64 last] 28)) := (Below.refl _ _).alloc (Nat.le_refl _) _
              have hcs := (ht5.ch.only hot fun k hk e => ht5.hm (by rw [← e]; exact hk)).below hba
              have hsBs := (hsB5.only hot fun hn0 a0 ha0 e => by have := hsB0.lt hn0 a0 ha0; have := hbw.size; have e : a0.block = gm := e; omega).below hba
              have hbws : Below w.heap.size w (ws.alloc (.cells #[.slice A2 n2 c2, .int .i64 last] 28)) := (hot.below hbw5 (fun k e => by have e : k = gm := e; omega) hbw5.size).alloc (by rw [hzs]; exact hbw5.size) _
              have hoa : Only ws (ws.alloc (.cells #[.slice A2 n2 c2, .int .i64 last] 28)) (DkS g v) := (Only.refl ws _).alloc _
              have hza : (ws.alloc (.cells #[.slice A2 n2 c2, .int .i64 last] 28)).heap.size = ws.heap.size + 1 := by simp
              have HWS := Lib.hid hws
              rw [← hws]
              clear hws
              generalize ws.alloc (.cells #[.slice A2 n2 c2, .int .i64 last] 28) = wb at *
              refine (cput_bad hcs t (by omega) _ _).mono ?_
              rintro e w7 ⟨rfl, rfl⟩
              have hbw7 := hbws
              have htw7 := htw.move hb5 ht5.md (fun k hk => .inr hk) HWS.out htw.asc hcs hoa (fun k hk => .inl hk)
              have hlen7 : L'.length ≤ k + 1 := by omega
              have hrow7 := hrow
              clear hcs hsBs hbws hoa hbw hbw5 htw ht5 hot hsB hsB5 m0 m1 mf0 mf1 x05 x25 hb5 hba
              go_wp2
              go_meet
              exact ⟨_, _, _, _, _, _, _, _, htw7, hlen7, hrow7, hbw7⟩
          · by_cases htl : last < t
            · skip
              have y0 := htw.m0
              have y1 := htw.m1
              go_wp2_with fail
              refine (rcput_ok htw.md (by omega) htl B m cB xp false hsB (by omega)).mono ?_
              rintro e w5 ⟨A5, c5, S5, rfl, hmd5, hb5, hms5⟩
              have ht5 := htw.below hb5
              have m0 := ht5.m0
              have m1 := ht5.m1
              have mf0 := ht5.mf 0
              have mf1 := ht5.mf 1
              have hgl := ht5.lt
              have hgne : gm ≠ w5.heap.size := by omega
              have x05 := cell_below hb5 x0
              have x25 := cell_below hb5 x2
              have hbl5 : b0 < w5.heap.size := World.block_lt_of_cell? w5 _ x05
              have hbne : b0 ≠ w5.heap.size := by omega
              have hb5s := hb5.size
              have hsB5 := hsB.below hb5
              have hgmB := htw.hB
              have hbw5 := Below.next' hbw hb5 hbw.size
              clear x0 x2 y0 y1
              go_wp2_with fail
              have hot := only_two w5 gm (.slice A5 (n2 + 1) c5) (.int .i64 t)
              obtain ⟨ws, hws⟩ : ∃ ws, ws = ((w5.setCell ⟨gm, 0, none⟩ (.slice A5 (n2 + 1) c5)).setCell ⟨gm, 1, none⟩ (.int .i64 t)) := ⟨_, rfl⟩
              rw [← hws] at hot
              have hzs : ws.heap.size = w5.heap.size := by rw [hws]; simp [World.setCell]
              have hba : Below ws.heap.size ws (ws.alloc (.cells #[.slice A5 (n2 + 1) c5, .int .i64 t] 28)) := (Below.refl _ _).alloc (Nat.le_refl _) _
              have hcs := (ht5.ch.only hot fun k hk e => ht5.hm (by rw [← e]; exact hk)).below hba
              have hsBs := (hsB5.only hot fun hn0 a0 ha0 e => by have := hsB0.lt hn0 a0 ha0; have := hbw.size; have e : a0.block = gm := e; omega).below hba
              have hbws : Below w.heap.size w (ws.alloc (.cells #[.slice A5 (n2 + 1) c5, .int .i64 t] 28)) := (hot.below hbw5 (fun k e => by have e : k = gm := e; omega) hbw5.size).alloc (by rw [hzs]; exact hbw5.size) _
              have hoa : Only ws (ws.alloc (.cells #[.slice A5 (n2 + 1) c5, .int .i64 t] 28)) (DkS g v) := (Only.refl ws _).alloc _
              have hza : (ws.alloc (.cells #[.slice A5 (n2 + 1) c5, .int .i64 t] 28)).heap.size = ws.heap.size + 1 := by simp
              have HWS := Lib.hid hws
              rw [← hws]
              clear hws
              generalize ws.alloc (.cells #[.slice A5 (n2 + 1) c5, .int .i64 t] 28) = wb at *
              refine (cput_ok hcs (by simp; omega) t htl B m cB xp false hsBs (by omega)).mono ?_
              rintro e w7 ⟨rfl, v7, S7, hc7, ho7, hs7⟩
              rw [show L'.map strip ++ [strip ⟨t, xp, false⟩] = (L' ++ ([⟨t, xp, false⟩] : List Ver)).map strip by simp] at hc7
              have hbw7 := hcs.belows hbws ho7 hz1
              have htw7 := htw.move hb5 hmd5 (fun k hk => (hms5 k hk).imp id .inr) HWS.out (htw.asc.push ⟨t, xp, false⟩ htl) hc7 (hoa.trans ho7 fun _ _ h => h) (fun k hk => (hs7 k hk).imp id fun e => by omega)
              have hlen7 : (L' ++ [(⟨t, xp, false⟩ : Ver)]).length ≤ k + 1 := by simp; omega
              have hrow7 : ∀ x ∈ L' ++ [(⟨t, xp, false⟩ : Ver)], x.row.length ≤ 30 := by
                intro x hx
                rcases List.mem_append.1 hx with hx | hx
                · exact hrow x hx
                · simp at hx; subst hx; have := hsB0.1; simp only; omega
              clear hcs hsBs hbws hoa hbw hbw5 htw ht5 hot hsB hsB5 m0 m1 mf0 mf1 x05 x25 hb5 hba hc7 ho7 hs7 hmd5 hms5
              go_wp2
              go_meet
              exact ⟨_, _, _, _, _, _, _, _, htw7, hlen7, hrow7, hbw7⟩
            · skip
              have y0 := htw.m0
              have y1 := htw.m1
              go_wp2_with fail
              refine (rcput_bad (w := w4) (t := t) (last := last) (by omega) (.slice B m cB) false A2 n2 c2 rfl).mono ?_
              rintro e w5 ⟨rfl, hb5⟩
              have ht5 := htw.below hb5
              have m0 := ht5.m0
              have m1 := ht5.m1
              have mf0 := ht5.mf 0
              have mf1 := ht5.mf 1
              have hgl := ht5.lt
              have hgne : gm ≠ w5.heap.size := by omega
              have x05 := cell_below hb5 x0
              have x25 := cell_below hb5 x2
              have hbl5 : b0 < w5.heap.size := World.block_lt_of_cell? w5 _ x05
              have hbne : b0 ≠ w5.heap.size := by omega
              have hb5s := hb5.size
              have hsB5 := hsB.below hb5
              have hgmB := htw.hB
              have hbw5 := Below.next' hbw hb5 hbw.size
              clear x0 x2 y0 y1
              go_wp2_with fail
              have hot := only_two w5 gm (.slice A2 n2 c2) (.int .i64 last)
              obtain ⟨ws, hws⟩ : ∃ ws, ws = ((w5.setCell ⟨gm, 0, none⟩ (.slice A2 n2 c2)).setCell ⟨gm, 1, none⟩ (.int .i64 last)) := ⟨_, rfl⟩
              rw [← hws] at hot
              have hzs : ws.heap.size = w5.heap.size := by rw [hws]; simp [World.setCell]
              have hba : Below ws.heap.size ws (ws.alloc (.cells #[.slice A2 n2 c2, .int .i64 last] 28)) := (Below.refl _ _).alloc (Nat.le_refl _) _
              have hcs := (ht5.ch.only hot fun k hk e => ht5.hm (by rw [← e]; exact hk)).below hba
              have hsBs := (hsB5.only hot fun hn0 a0 ha0 e => by have := hsB0.lt hn0 a0 ha0; have := hbw.size; have e : a0.block = gm := e; omega).below hba
              have hbws : Below w.heap.size w (ws.alloc (.cells #[.slice A2 n2 c2, .int .i64 last] 28)) := (hot.below hbw5 (fun k e => by have e : k = gm := e; omega) hbw5.size).alloc (by rw [hzs]; exact hbw5.size) _
              have hoa : Only ws (ws.alloc (.cells #[.slice A2 n2 c2, .int .i64 last] 28)) (DkS g v) := (Only.refl ws _).alloc _
              have hza : (ws.alloc (.cells #[.slice A2 n2 c2, .int .i64 last] 28)).heap.size = ws.heap.size + 1 := by simp
              have HWS := Lib.hid hws
              rw [← hws]
              clear hws
              generalize ws.alloc (.cells #[.slice A2 n2 c2, .int .i64 last] 28) = wb at *
              refine (cput_bad hcs t (by omega) _ _).mono ?_
              rintro e w7 ⟨rfl, rfl⟩
              have hbw7 := hbws
              have htw7 := htw.move hb5 ht5.md (fun k hk => .inr hk) HWS.out htw.asc hcs hoa (fun k hk => .inl hk)
              have hlen7 : L'.length ≤ k + 1 := by omega
              have hrow7 := hrow
              clear hcs hsBs hbws hoa hbw hbw5 htw ht5 hot hsB hsB5 m0 m1 mf0 mf1 x05 x25 hb5 hba
              go_wp2
              go_meet
              exact ⟨_, _, _, _, _, _, _, _, htw7, hlen7, hrow7, hbw7⟩
          · by_cases htl : last < t
            · skip
              have y0 := htw.m0
              have y1 := htw.m1
              go_wp2_with fail
              refine (rcput_ok htw.md (by omega) htl B m cB xp false hsB (by omega)).mono ?_
              rintro e w5 ⟨A5, c5, S5, rfl, hmd5, hb5, hms5⟩
              have ht5 := htw.below hb5
              have m0 := ht5.m0
              have m1 := ht5.m1
              have mf0 := ht5.mf 0
              have mf1 := ht5.mf 1
              have hgl := ht5.lt
              have hgne : gm ≠ w5.heap.size := by omega
              have x05 := cell_below hb5 x0
              have x25 := cell_below hb5 x2
              have hbl5 : b0 < w5.heap.size := World.block_lt_of_cell? w5 _ x05
              have hbne : b0 ≠ w5.heap.size := by omega
              have hb5s := hb5.size
              have hsB5 := hsB.below hb5
              have hgmB := htw.hB
              have hbw5 := Below.next' hbw hb5 hbw.size
              clear x0 x2 y0 y1
              go_wp2_with fail
              have hot := only_two w5 gm (.slice A5 (n2 + 1) c5) (.int .i64 t)
              obtain ⟨ws, hws⟩ : ∃ ws, ws = ((w5.setCell ⟨gm, 0, none⟩ (.slice A5 (n2 + 1) c5)).setCell ⟨gm, 1, none⟩ (.int .i64 t)) := ⟨_, rfl⟩
              rw [← hws] at hot
              have hzs : ws.heap.size = w5.heap.size := by rw [hws]; simp [World.setCell]
              have hba : Below ws.heap.size ws (ws.alloc (.cells #[.slice A5 (n2 + 1) c5, .int .i64 t] 28)) := (Below.refl _ _).alloc (Nat.le_refl _) _
              have hcs := (ht5.ch.only hot fun k hk e => ht5.hm (by rw [← e]; exact hk)).below hba
              have hsBs := (hsB5.only hot fun hn0 a0 ha0 e => by have := hsB0.lt hn0 a0 ha0; have := hbw.size; have e : a0.block = gm := e; omega).below hba
              have hbws : Below w.heap.size w (ws.alloc (.cells #[.slice A5 (n2 + 1) c5, .int .i64 t] 28)) := (hot.below hbw5 (fun k e => by have e : k = gm := e; omega) hbw5.size).alloc (by rw [hzs]; exact hbw5.size) _
              have hoa : Only ws (ws.alloc (.cells #[.slice A5 (n2 + 1) c5, .int .i64 t] 28)) (DkS g v) := (Only.refl ws _).alloc _
              have hza : (ws.alloc (.cells #[.slice A5 (n2 + 1) c5, .int .i64 t] 28)).heap.size = ws.heap.size + 1 := by simp
              have HWS := Lib.hid hws
              rw [← hws]
              clear hws
              generalize ws.alloc (.cells #[.slice A5 (n2 + 1) c5, .int .i64 t] 28) = wb at *
              refine (cput_ok hcs (by simp; omega) t htl B m cB xp false hsBs (by omega)).mono ?_
              rintro e w7 ⟨rfl, v7, S7, hc7, ho7, hs7⟩
              rw [show L'.map strip ++ [strip ⟨t, xp, false⟩] = (L' ++ ([⟨t, xp, false⟩] : List Ver)).map strip by simp] at hc7
              have hbw7 := hcs.belows hbws ho7 hz1
              have htw7 := htw.move hb5 hmd5 (fun k hk => (hms5 k hk).imp id .inr) HWS.out (htw.asc.push ⟨t, xp, false⟩ htl) hc7 (hoa.trans ho7 fun _ _ h => h) (fun k hk => (hs7 k hk).imp id fun e => by omega)
              have hlen7 : (L' ++ [(⟨t, xp, false⟩ : Ver)]).length ≤ k + 1 := by simp; omega
              have hrow7 : ∀ x ∈ L' ++ [(⟨t, xp, false⟩ : Ver)], x.row.length ≤ 30 := by
                intro x hx
                rcases List.mem_append.1 hx with hx | hx
                · exact hrow x hx
                · simp at hx; subst hx; have := hsB0.1; simp only; omega
              clear hcs hsBs hbws hoa hbw hbw5 htw ht5 hot hsB hsB5 m0 m1 mf0 mf1 x05 x25 hb5 hba hc7 ho7 hs7 hmd5 hms5
              go_wp2
              go_meet
              exact ⟨_, _, _, _, _, _, _, _, htw7, hlen7, hrow7, hbw7⟩
            · skip
              have y0 := htw.m0
              have y1 := htw.m1
              go_wp2_with fail
              refine (rcput_bad (w := w4) (t := t) (last := last) (by omega) (.slice B m cB) false A2 n2 c2 rfl).mono ?_
              rintro e w5 ⟨rfl, hb5⟩
              have ht5 := htw.below hb5
              have m0 := ht5.m0
              have m1 := ht5.m1
              have mf0 := ht5.mf 0
              have mf1 := ht5.mf 1
              have hgl := ht5.lt
              have hgne : gm ≠ w5.heap.size := by omega
              have x05 := cell_below hb5 x0
              have x25 := cell_below hb5 x2
              have hbl5 : b0 < w5.heap.size := World.block_lt_of_cell? w5 _ x05
              have hbne : b0 ≠ w5.heap.size := by omega
              have hb5s := hb5.size
              have hsB5 := hsB.below hb5
              have hgmB := htw.hB
              have hbw5 := Below.next' hbw hb5 hbw.size
              clear x0 x2 y0 y1
              go_wp2_with fail
              have hot := only_two w5 gm (.slice A2 n2 c2) (.int .i64 last)
              obtain ⟨ws, hws⟩ : ∃ ws, ws = ((w5.setCell ⟨gm, 0, none⟩ (.slice A2 n2 c2)).setCell ⟨gm, 1, none⟩ (.int .i64 last)) := ⟨_, rfl⟩
              rw [← hws] at hot
              have hzs : ws.heap.size = w5.heap.size := by rw [hws]; simp [World.setCell]
              have hba : Below ws.heap.size ws (ws.alloc (.cells #[.slice A2 n2 c2, .int .i64 last] 28)) := (Below.refl _ _).alloc (Nat.le_refl _) _
              have hcs := (ht5.ch.only hot fun k hk e => ht5.hm (by rw [← e]; exact hk)).below hba
              have hsBs := (hsB5.only hot fun hn0 a0 ha0 e => by have := hsB0.lt hn0 a0 ha0; have := hbw.size; have e : a0.block = gm := e; omega).below hba
              have hbws : Below w.heap.size w (ws.alloc (.cells #[.slice A2 n2 c2, .int .i64 last] 28)) := (hot.below hbw5 (fun k e => by have e : k = gm := e; omega) hbw5.size).alloc (by rw [hzs]; exact hbw5.size) _
              have hoa : Only ws (ws.alloc (.cells #[.slice A2 n2 c2, .int .i64 last] 28)) (DkS g v) := (Only.refl ws _).alloc _
              have hza : (ws.alloc (.cells #[.slice A2 n2 c2, .int .i64 last] 28)).heap.size = ws.heap.size + 1 := by simp
              have HWS := Lib.hid hws
              rw [← hws]
              clear hws
              generalize ws.alloc (.cells #[.slice A2 n2 c2, .int .i64 last] 28) = wb at *
              refine (cput_bad hcs t (by omega) _ _).mono ?_
              rintro e w7 ⟨rfl, rfl⟩
              have hbw7 := hbws
              have htw7 := htw.move hb5 ht5.md (fun k hk => .inr hk) HWS.out htw.asc hcs hoa (fun k hk => .inl hk)
              have hlen7 : L'.length ≤ k + 1 := by omega
              have hrow7 := hrow
              clear hcs hsBs hbws hoa hbw hbw5 htw ht5 hot hsB hsB5 m0 m1 mf0 mf1 x05 x25 hb5 hba
              go_wp2
              go_meet
              exact ⟨_, _, _, _, _, _, _, _, htw7, hlen7, hrow7, hbw7⟩
          · by_cases htl : last < t
            · skip
              have y0 := htw.m0
              have y1 := htw.m1
              go_wp2_with fail
              refine (rcput_ok htw.md (by omega) htl B m cB xp true hsB (by omega)).mono ?_
              rintro e w5 ⟨A5, c5, S5, rfl, hmd5, hb5, hms5⟩
              have ht5 := htw.below hb5
              have m0 := ht5.m0
              have m1 := ht5.m1
              have mf0 := ht5.mf 0
              have mf1 := ht5.mf 1
              have hgl := ht5.lt
              have hgne : gm ≠ w5.heap.size := by omega
              have x05 := cell_below hb5 x0
              have x25 := cell_below hb5 x2
              have hbl5 : b0 < w5.heap.size := World.block_lt_of_cell? w5 _ x05
              have hbne : b0 ≠ w5.heap.size := by omega
              have hb5s := hb5.size
              have hsB5 := hsB.below hb5
              have hgmB := htw.hB
              have hbw5 := Below.next' hbw hb5 hbw.size
              clear x0 x2 y0 y1
              go_wp2_with fail
              have hot := only_two w5 gm (.slice A5 (n2 + 1) c5) (.int .i64 t)
              obtain ⟨ws, hws⟩ : ∃ ws, ws = ((w5.setCell ⟨gm, 0, none⟩ (.slice A5 (n2 + 1) c5)).setCell ⟨gm, 1, none⟩ (.int .i64 t)) := ⟨_, rfl⟩
              rw [← hws] at hot
              have hzs : ws.heap.size = w5.heap.size := by rw [hws]; simp [World.setCell]
              have hba : Below ws.heap.size ws (ws.alloc (.cells #[.slice A5 (n2 + 1) c5, .int .i64 t] 28)) := (Below.refl _ _).alloc (Nat.le_refl _) _
              have hcs := (ht5.ch.only hot fun k hk e => ht5.hm (by rw [← e]; exact hk)).below hba
              have hsBs := (hsB5.only hot fun hn0 a0 ha0 e => by have := hsB0.lt hn0 a0 ha0; have := hbw.size; have e : a0.block = gm := e; omega).below hba
              have hbws : Below w.heap.size w (ws.alloc (.cells #[.slice A5 (n2 + 1) c5, .int .i64 t] 28)) := (hot.below hbw5 (fun k e => by have e : k = gm := e; omega) hbw5.size).alloc (by rw [hzs]; exact hbw5.size) _
              have hoa : Only ws (ws.alloc (.cells #[.slice A5 (n2 + 1) c5, .int .i64 t] 28)) (DkS g v) := (Only.refl ws _).alloc _
              have hza : (ws.alloc (.cells #[.slice A5 (n2 + 1) c5, .int .i64 t] 28)).heap.size = ws.heap.size + 1 := by simp
              have HWS := Lib.hid hws
              rw [← hws]
              clear hws
              generalize ws.alloc (.cells #[.slice A5 (n2 + 1) c5, .int .i64 t] 28) = wb at *
              refine (cput_ok hcs (by simp; omega) t htl B m cB xp true hsBs (by omega)).mono ?_
              rintro e w7 ⟨rfl, v7, S7, hc7, ho7, hs7⟩
              rw [show L'.map strip ++ [strip ⟨t, xp, true⟩] = (L' ++ ([⟨t, xp, true⟩] : List Ver)).map strip by simp] at hc7
              have hbw7 := hcs.belows hbws ho7 hz1
              have htw7 := htw.move hb5 hmd5 (fun k hk => (hms5 k hk).imp id .inr) HWS.out (htw.asc.push ⟨t, xp, true⟩ htl) hc7 (hoa.trans ho7 fun _ _ h => h) (fun k hk => (hs7 k hk).imp id fun e => by omega)
              have hlen7 : (L' ++ [(⟨t, xp, true⟩ : Ver)]).length ≤ k + 1 := by simp; omega
              have hrow7 : ∀ x ∈ L' ++ [(⟨t, xp, true⟩ : Ver)], x.row.length ≤ 30 := by
                intro x hx
                rcases List.mem_append.1 hx with hx | hx
                · exact hrow x hx
                · simp at hx; subst hx; have := hsB0.1; simp only; omega
              clear hcs hsBs hbws hoa hbw hbw5 htw ht5 hot hsB hsB5 m0 m1 mf0 mf1 x05 x25 hb5 hba hc7 ho7 hs7 hmd5 hms5
              go_wp2
              go_meet
              exact ⟨_, _, _, _, _, _, _, _, htw7, hlen7, hrow7, hbw7⟩
            · skip
              have y0 := htw.m0
              have y1 := htw.m1
              go_wp2_with fail
              refine (rcput_bad (w := w4) (t := t) (last := last) (by omega) (.slice B m cB) true A2 n2 c2 rfl).mono ?_
              rintro e w5 ⟨rfl, hb5⟩
              have ht5 := htw.below hb5
              have m0 := ht5.m0
              have m1 := ht5.m1
              have mf0 := ht5.mf 0
              have mf1 := ht5.mf 1
              have hgl := ht5.lt
              have hgne : gm ≠ w5.heap.size := by omega
              have x05 := cell_below hb5 x0
              have x25 := cell_below hb5 x2
              have hbl5 : b0 < w5.heap.size := World.block_lt_of_cell? w5 _ x05
              have hbne : b0 ≠ w5.heap.size := by omega
              have hb5s := hb5.size
              have hsB5 := hsB.below hb5
              have hgmB := htw.hB
              have hbw5 := Below.next' hbw hb5 hbw.size
              clear x0 x2 y0 y1
              go_wp2_with fail
              have hot := only_two w5 gm (.slice A2 n2 c2) (.int .i64 last)
              obtain ⟨ws, hws⟩ : ∃ ws, ws = ((w5.setCell ⟨gm, 0, none⟩ (.slice A2 n2 c2)).setCell ⟨gm, 1, none⟩ (.int .i64 last)) := ⟨_, rfl⟩
              rw [← hws] at hot
              have hzs : ws.heap.size = w5.heap.size := by rw [hws]; simp [World.setCell]
              have hba : Below ws.heap.size ws (ws.alloc (.cells #[.slice A2 n2 c2, .int .i64 last] 28)) := (Below.refl _ _).alloc (Nat.le_refl _) _
              have hcs := (ht5.ch.only hot fun k hk e => ht5.hm (by rw [← e]; exact hk)).below hba
              have hsBs := (hsB5.only hot fun hn0 a0 ha0 e => by have := hsB0.lt hn0 a0 ha0; have := hbw.size; have e : a0.block = gm := e; omega).below hba
              have hbws : Below w.heap.size w (ws.alloc (.cells #[.slice A2 n2 c2, .int .i64 last] 28)) := (hot.below hbw5 (fun k e => by have e : k = gm := e; omega) hbw5.size).alloc (by rw [hzs]; exact hbw5.size) _
              have hoa : Only ws (ws.alloc (.cells #[.slice A2 n2 c2, .int .i64 last] 28)) (DkS g v) := (Only.refl ws _).alloc _
              have hza : (ws.alloc (.cells #[.slice A2 n2 c2, .int .i64 last] 28)).heap.size = ws.heap.size + 1 := by simp
              have HWS := Lib.hid hws
              rw [← hws]
              clear hws
              generalize ws.alloc (.cells #[.slice A2 n2 c2, .int .i64 last] 28) = wb at *
              refine (cput_bad hcs t (by omega) _ _).mono ?_
              rintro e w7 ⟨rfl, rfl⟩
              have hbw7 := hbws
              have htw7 := htw.move hb5 ht5.md (fun k hk => .inr hk) HWS.out htw.asc hcs hoa (fun k hk => .inl hk)
              have hlen7 : L'.length ≤ k + 1 := by omega
              have hrow7 := hrow
              clear hcs hsBs hbws hoa hbw hbw5 htw ht5 hot hsB hsB5 m0 m1 mf0 mf1 x05 x25 hb5 hba
              go_wp2
              go_meet
              exact ⟨_, _, _, _, _, _, _, _, htw7, hlen7, hrow7, hbw7⟩
          · skip
            have y0 := htw.m0
            have y1 := htw.m1
            go_wp2_with fail
            refine (rctrim_any htw.md htw.asc (by omega) t).mono ?_
            have hTl := trimN_le L' t
            have hTM := trimN_map L' t
            obtain ⟨T, hT⟩ : ∃ T, trimN L' t = T := ⟨_, rfl⟩
            rw [hT] at hTl hTM ⊢
            rintro e w5 ⟨A5, c5, rfl, hmd5, hb5, hms5⟩
            obtain ⟨n5, hn5⟩ : ∃ n5, n2 - T = n5 := ⟨_, rfl⟩
            rw [hn5] at hmd5 hms5 ⊢
            have hct := fun (W : World) (h : Ch W w1.heap.size g v S (L'.map strip) last) => ctrim_any h (by simp; omega) t
            rw [hTM] at hct
            have HCT := Lib.hid hct
            have hlen7 : (L'.drop T).length ≤ k + 1 := by rw [List.length_drop]; omega
            have hrow7 : ∀ x ∈ L'.drop T, x.row.length ≤ 30 := fun x hx => hrow x (List.mem_of_mem_drop hx)
            clear hT hTM hct hn5
            have ht5 := htw.below hb5
            have m0 := ht5.m0
            have m1 := ht5.m1
            have mf0 := ht5.mf 0
            have mf1 := ht5.mf 1
            have hgl := ht5.lt
            have hgne : gm ≠ w5.heap.size := by omega
            have hgmB := htw.hB
            have hbw5 := Below.next' hbw hb5 hbw.size
            clear x0 x2 y0 y1
            go_wp2_with fail
            have hot := only_two w5 gm (.slice A5 n5 c5) (.int .i64 last)
            obtain ⟨ws, hws⟩ : ∃ ws, ws = ((w5.setCell ⟨gm, 0, none⟩ (.slice A5 n5 c5)).setCell ⟨gm, 1, none⟩ (.int .i64 last)) := ⟨_, rfl⟩
            rw [← hws] at hot
            have hzs : ws.heap.size = w5.heap.size := by rw [hws]; simp [World.setCell]
            have hba : Below ws.heap.size ws (ws.alloc (.cells #[.slice A5 n5 c5, .int .i64 last] 28)) := (Below.refl _ _).alloc (Nat.le_refl _) _
            have hcs := (ht5.ch.only hot fun k hk e => ht5.hm (by rw [← e]; exact hk)).below hba
            have hbws : Below w.heap.size w (ws.alloc (.cells #[.slice A5 n5 c5, .int .i64 last] 28)) := (hot.below hbw5 (fun k e => by have e : k = gm := e; omega) hbw5.size).alloc (by rw [hzs]; exact hbw5.size) _
            have hoa : Only ws (ws.alloc (.cells #[.slice A5 n5 c5, .int .i64 last] 28)) (DkS g v) := (Only.refl ws _).alloc _
            have hza : (ws.alloc (.cells #[.slice A5 n5 c5, .int .i64 last] 28)).heap.size = ws.heap.size + 1 := by simp
            have HWS := Lib.hid hws
            rw [← hws]
            clear hws
            generalize ws.alloc (.cells #[.slice A5 n5 c5, .int .i64 last] 28) = wb at *
            refine (HCT.out wb hcs).mono ?_
            rintro e w7 ⟨rfl, v7, hc7, ho7, hv7⟩
            rw [← List.map_drop] at hc7
            have hbw7 := hcs.belows hbws ho7 hz1
            have htw7 := htw.move hb5 hmd5 (fun k hk => .inr (hms5 k hk)) HWS.out (htw.asc.drop T) hc7 (hoa.trans ho7 fun _ _ h => h) (fun k hk => by
              rcases hk with (hk | hk) | hk
              · exact .inl (.inl (.inl hk))
              · exact .inl (.inl (.inr (hv7 k hk)))
              · exact .inl (.inr hk.drop))
            clear hcs hbws hoa hbw hbw5 htw ht5 hot hsB m0 m1 mf0 mf1 hb5 hba hc7 ho7 hv7 hmd5 hms5
            go_wp2
            go_meet
            exact ⟨_, _, _, _, _, _, _, _, htw7, hlen7, hrow7, hbw7⟩
          · skip
            have hl7 : L'.length ≤ k + 1 := by omega
            go_wp2
            go_meet
            exact ⟨_, _, _, _, _, _, _, _, htw, hl7, hrow, hbw⟩
        case rest =>
          obtain ⟨n2, c2, v, S, S2, A2, L', last, htw, hlk, hrow, hbw⟩ := hcut
          obtain ⟨w9, hw9⟩ : ∃ w9, wc = w9 := ⟨_, rfl⟩
          rw [hw9] at htw hbw ⊢
          clear hw9 hc eq6 eq6t hbne0 hbc0
          have hln2 : L'.length = n2 := htw.md.len
          go_wp2_with fail
          go_loopw [14, 15, 16, 17, 18] (fun i _ _ _ _ w' => ∃ j : Nat, j ≤ 11 ∧ i = .int .i64 (4 * (j : Int) - 2) ∧ Tw w' w1.heap.size g gm v S A2 n2 c2 S2 L' last ∧ Below w.heap.size w w') (fun i _ _ _ _ _ => 11 - ((intOf i + 2) / 4).toNat)
          case atStart => exact ⟨0, by omega, rfl, htw, hbw⟩
          case round =>
            clear htw hbw
            obtain ⟨j, hj, rfl, htw, hbw⟩ := hrel
            by_cases hlt2 : j < 11
            · obtain ⟨K, hK⟩ : ∃ K, 4 * (j : Int) - 2 = K := ⟨_, rfl⟩
              have dK : decide (K < 42) = true := decide_eq_true (by omega)
              have eK : K + 4 = 4 * ((j + 1 : Nat) : Int) - 2 := by omega
              have bK : -2 ≤ K ∧ K ≤ 38 := by omega
              rw [hK]
              have y0 := htw.m0
              have y1 := htw.m1
              have hgt := htw.get (by omega) hrow K
              have hrt := fun (W : World) (h : Md W A2 n2 c2 S2 L') => rcget_any h htw.asc (by omega) K
              obtain ⟨r, hr⟩ : ∃ r, getV L' K = r := ⟨_, rfl⟩
              rw [hr] at hgt hrt
              have HRT := Lib.hid hrt
              clear hr hrt
              obtain ⟨rl, rb⟩ := r
              have hbb : (rb != rb) = false := by simp
              clear y0 y1
              go_wp2_with fail
              refine hgt.mono ?_
              rintro e w5 ⟨B5, m5, d5, rfl, hs5, hm5, hb5⟩
              have ht5 := htw.below hb5
              have hbw5 := Below.next' hbw hb5 hbw.size
              have y0 := ht5.m0
              have y1 := ht5.m1
              clear htw hbw hb5 hgt
              go_wp2_with fail
              refine (HRT.out w5 ht5.md).mono ?_
              rintro e w6 ⟨B6, m6, d6, rfl, hs6, _, _, hb6⟩
              have ht6 := ht5.below hb6
              have hs56 := hs5.below hb6
              have hbw6 := Below.next' hbw5 hb6 hbw5.size
              clear ht5 hbw5 hb6 hs5 y0 y1 HRT
              go_wp2_with fail
              refine (bytes_any B5 B6 m5 m6 d5 d6 rl rl _ hs56 hs6 hm5).mono ?_
              rintro e w7 ⟨rfl, u, rfl⟩
              rw [show (rl == rl) = true by simp]
              have ht7 := ht6.drewN u
              have hbw7 := Below.drewP hbw6 u
              clear ht6 hbw6 hs56 hs6
              generalize w6.drewN u = w7 at *
              have HK := Lib.hid hK
              clear hK
              go_wp2
              go_roundw
              case rel => exact ⟨j + 1, hlt2, by rw [← eK]; go_num, ht7, hbw7⟩
              case measure => have := HK.out; simp [intOf]; omega
            · obtain rfl : j = 11 := by omega
              have dK : decide (4 * ((11 : Nat) : Int) - 2 < 42) = false := by decide
              clear hlt2
              have y0 := htw.m0
              have y1 := htw.m1
              have hgt := htw.get (by omega) hrow t
              have hrt := fun (W : World) (h : Md W A2 n2 c2 S2 L') => rcget_any h htw.asc (by omega) t
              obtain ⟨r, hr⟩ : ∃ r, getV L' t = r := ⟨_, rfl⟩
              rw [hr] at hgt hrt
              have HRT := Lib.hid hrt
              clear hr hrt
              obtain ⟨rl, rb⟩ := r
              have hbb : (rb != rb) = false := by simp
              clear y0 y1
              go_wp2_with fail
              refine hgt.mono ?_
              rintro e w5 ⟨B5, m5, d5, rfl, hs5, hm5, hb5⟩
              have ht5 := htw.below hb5
              have hbw5 := Below.next' hbw hb5 hbw.size
              have y0 := ht5.m0
              have y1 := ht5.m1
              clear htw hbw hb5 hgt
              go_wp2_with fail
              refine (HRT.out w5 ht5.md).mono ?_
              rintro e w6 ⟨B6, m6, d6, rfl, hs6, _, _, hb6⟩
              have ht6 := ht5.below hb6
              have hs56 := hs5.below hb6
              have hbw6 := Below.next' hbw5 hb6 hbw5.size
              clear ht5 hbw5 hb6 hs5 y0 y1 HRT
              have y0 := ht6.m0
              have y1 := ht6.m1
              go_wp2_with fail
              have k0 := fun d os => cell_regrown y0 d os
              have k1 := fun d os => cell_regrown y1 d os
              have kby := fun d os => (bytes_any B5 B6 m5 m6 d5 d6 rl rl _ (hs56.below (below_regrown w6 d os)) (hs6.below (below_regrown w6 d os)) hm5).mono (R' := fun e w' => e = .returned (.bool true) ∧ Below (Go.Sort.grow (redrawn w6 d) os).heap.size (Go.Sort.grow (redrawn w6 d) os) w') (by rintro e w' ⟨rfl, u, rfl⟩; exact ⟨by simp, Below.drewP (Below.refl _ _) u⟩)
              have kla := fun d os => (clast_any (ht6.ch.below (below_regrown w6 d os))).mono (R' := fun e w' => e = .returned (.int .i64 last) ∧ Below (Go.Sort.grow (redrawn w6 d) os).heap.size (Go.Sort.grow (redrawn w6 d) os) w') (by rintro e w' ⟨rfl, rfl⟩; exact ⟨rfl, Below.refl _ _⟩)
              have kle := fun d os => (clen_any (ht6.ch.below (below_regrown w6 d os))).mono (R' := fun e w' => e = .returned (.int .i64 (n2 : Int)) ∧ Below (Go.Sort.grow (redrawn w6 d) os).heap.size (Go.Sort.grow (redrawn w6 d) os) w') (by rintro e w' ⟨rfl, rfl⟩; exact ⟨by simp [hln2], Below.refl _ _⟩)
              have KBY := Lib.hid kby
              have KLA := Lib.hid kla
              have KLE := Lib.hid kle
              clear kby kla kle y0 y1
              refine wp_region_quiet_below (by kernel_rfl) (by kernel_rfl) ?_
              repeat (go_big_quiet_step ((first | with_reducible exact Calls.regrown_of (KBY.out _ _) | with_reducible exact Calls.regrown_of (KLA.out _ _) | with_reducible exact Calls.regrown_of (KLE.out _ _))))
              refine wpQuiet_nil ?_
              rintro w' ⟨⟨dq, osq⟩, rfl⟩
              have hbq := below_regrown w6 dq osq
              have htq := ht6.below hbq
              have hbwq := Below.next' hbw6 hbq hbw6.size
              clear k0 k1 KBY KLA KLE ht6 hs56 hs6 hbw6 hbq
              simp only
              generalize Go.Sort.grow (redrawn w6 dq) osq = w8 at *
              go_wp2
              go_roundw
              case rel => exact ⟨k + 1, _, _, _, _, _, _, _, _, hlt, by go_num, htq, hlk, hrow, hbwq⟩
              case measure => simp [intOf]; omega
      · have dm : decide ((30 : Int) < (m : Int)) = true := decide_eq_true (by omega)
        have hbf := hbw.alloc hbw.size (.cells #[.int .u8 (xd : Int), .int .i64 xn, .slice B m cB] 31)
        clear htw hsB
        go_wp2
        go_ret
        exact ⟨rfl, hbf⟩
    · obtain rfl : n = k := by omega
      go_wp2
      go_ret
      exact ⟨rfl, hbw⟩

set_option maxHeartbeats 4000000 in
theorem chainPlays_long (A : Option Addr) (n c : Nat) (b : Bool) (w : World) (h : 60 < n) :
    Calls Try.prog 3 #[.slice A n c, .bool b] w fun e w' => e = .returned (.bool true) ∧ Below w.heap.size w w' := by
  have d0 : decide ((60 : Int) < (n : Int)) = true := decide_eq_true (by omega)
  go_enter Try.func3, Try.ntmps3
  go_wp2_with fail
  refine (gone_any _).mono ?_
  rintro e w1 ⟨rfl, hb1⟩
  go_wp2_with fail
  refine (gone_any _).mono ?_
  rintro e w2 ⟨rfl, hb2⟩
  go_wp2
  go_ret
  exact ⟨rfl, Below.next' hb1 hb2 hb1.size⟩

theorem chainPlays_walk (A : Option Addr) (n c : Nat) (L : List DAct) (b : Bool) (w : World) (ha : SegDA w A n L) (_ : n ≤ c) (_ : c ≤ maxLen) :
    Calls Try.prog 3 #[.slice A n c, .bool b] w fun e w' => e = .returned (.bool true) ∧ Below w.heap.size w w' := by
  by_cases h : n ≤ 60
  · rcases b with _ | _
    · exact chainPlays_core0 A n c L w ha h
    · exact chainPlays_core1 A n c L w ha h
  · exact chainPlays_long A n c b w (by omega)

end Go.Proofs.Ytandlkflnfiikaa
