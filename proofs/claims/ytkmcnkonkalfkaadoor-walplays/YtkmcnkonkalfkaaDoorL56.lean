/-
  The walk of the law WalPlays.
-/
import Derived.Test.YtkmcnkonkalfkaaDoorWW8
import Derived.Test.YtkmcnkonkalfkaaDoorOpenW
import Derived.Test.YtkmcnkonkalfkaaDoorQV
import Derived.Deep.DeepCutAuto
namespace Go.Proofs.YtkmcnkonkalfkaaDoor
open Go.RowKit

theorem segk6 {w : World} {base : Nat} {v : Value} {ls : List (List UInt8)} (h : OwnL w base v ls) (k : Nat) (hk : ls.length = k) : ∃ A c, v = .slice A k c ∧ SegL w A k ls ∧ k ≤ c ∧ c ≤ maxLen := by
  subst hk
  exact h.seg
theorem formsk6 {w : World} {base : Nat} {e : TypeId} {v : Value} {l : List UInt8} (h : Own w base e v l) (k : Nat) (hk : l.length = k) : ∃ A c, v = .slice A k c ∧ Seg w A k l ∧ k ≤ c ∧ c ≤ maxLen := by
  subst hk
  exact h.forms
theorem length_le_size6 : ∀ L : List (List UInt8), L.length ≤ sizeL L := by
  intro L
  induction L with
  | nil => simp [sizeL]
  | cons a L ih => simp only [List.length_cons, sizeL]; omega
theorem dks_moved6 {w : World} {g gl : Nat} {v v' : Value} (hng : ¬ DkS g v gl) (hm : Moved w v v') (hl : gl < w.heap.size) : ¬ DkS g v' gl := by
  intro hk
  rcases hk with e | e
  · exact hng (.inl e)
  · rcases hm _ e with h | h
    · exact hng (.inr h)
    · omega

theorem walOpen_true {w : World} {B g : Nat} {v : Value} {l : List UInt8} {s : Nat} {c : Int} (hd : Dk w B g v l s false c) (hl : l.length ≤ 100000) (ht : Tab w) :
    Calls Tryd.prog 22 #[.pointer (some ⟨g, 0, none⟩)] w fun e w' => ∃ gl u v', e = .returned (.tuple #[.pointer (some ⟨gl, 0, none⟩), u, .int .i64 0]) ∧ OwnL w' w.heap.size u (scanL l) ∧ Lg w' gl g (sizeL (scanL l) : Int) ∧ w.heap.size ≤ gl ∧
      Dk w' B g v' (if sizeL (scanL l) < l.length then l.take (sizeL (scanL l)) else l) (if sizeL (scanL l) < l.length then sizeL (scanL l) else s) false c ∧ Only w w' (DkS g v) ∧ v'.ownBlock = v.ownBlock := by
  by_cases hz : sizeL (scanL l) < l.length
  · rw [if_pos hz, if_pos hz]
    refine (walOpen_cut hd _ rfl hl hz rfl ht).mono ?_
    rintro e w' ⟨gl, u, v', rfl, ho, hg, hgl, hd1, ho1, hv⟩
    rw [dn_false] at hd1
    exact ⟨gl, u, v', rfl, ho, hg, hgl, hd1, ho1.mono fun k _ e => .inl e, hv⟩
  · rw [if_neg hz, if_neg hz]
    refine (walOpen_whole hd _ rfl hl (by omega) ht).mono ?_
    rintro e w' ⟨gl, u, rfl, ho, hg, hgl, hb⟩
    exact ⟨gl, u, v, rfl, ho, hg, hgl, hd.below hb, Only.of_below hb, rfl⟩
theorem ropen_true {w : World} {B g : Nat} {v : Value} {l : List UInt8} {s : Nat} (hd : Mk w B g v l s (-1)) (hl : l.length ≤ 100000) :
    Calls Tryd.prog 31 #[.pointer (some ⟨g, 0, none⟩)] w fun e w' => ∃ u v', e = .returned (.tuple #[u, .int .i64 (sizeL (scanL l) : Int), .int .i64 0]) ∧ OwnL w' w.heap.size u (scanL l) ∧
      Mk w' B g v' (if sizeL (scanL l) < l.length then l.take (sizeL (scanL l)) else l) (if sizeL (scanL l) < l.length then sizeL (scanL l) else s) (-1) ∧ Only w w' (DkS g v) ∧ Moved w v v' := by
  by_cases hz : sizeL (scanL l) < l.length
  · rw [if_pos hz, if_pos hz]
    refine (ropen_cut hd _ rfl hl hz rfl).mono ?_
    rintro e w' ⟨u, v', rfl, ho, hd1, ho1, hv⟩
    exact ⟨u, v', rfl, ho, hd1, ho1.mono fun k _ e => .inl e, hv⟩
  · rw [if_neg hz, if_neg hz]
    refine (ropen_whole hd _ rfl hl (by omega)).mono ?_
    rintro e w' ⟨u, rfl, ho, hb⟩
    exact ⟨u, v, rfl, ho, hd.below hb, Only.of_below hb, Moved.refl _ _⟩

set_option maxRecDepth 8000 in
set_option maxHeartbeats 100000000 in
theorem walPlays_core (A : Option Addr) (n c : Nat) (L : List WAct) (w : World) (ha : SegWA w A n L) (h1 : n ≤ 40) (ht : Tab w) :
    Calls Tryd.prog 6 #[.slice A n c] w fun e w' => e = .returned (.bool true) ∧ Below w.heap.size w w' := by
  have d1 : decide ((40 : Int) < (n : Int)) = false := decide_eq_false (by omega)
  go_enter Tryd.func6, Tryd.ntmps6
  go_wp2_with fail
  refine (both_any _ ht).mono ?_
  rintro e w1 ⟨rfl, hb1⟩
  go_wp2_with fail
  refine (new_any none 0 0 [] _ (Seg.nil _ _) (by omega)).mono ?_
  rintro e w2 ⟨g, v2, rfl, hd2, hb2⟩
  have hbw2 := Below.next' hb1 hb2 hb1.size
  have hz1 := hb1.size
  have hgB := hd2.hB
  clear hb1 hb2
  go_wp2_with fail
  refine (rnew_any none 0 0 [] _ (Seg.nil _ _) (by omega)).mono ?_
  rintro e w3 ⟨gm, v3, rfl, hm3, hb3⟩
  have hbw3 := Below.next' hbw2 hb3 hbw2.size
  have hz2 := hd2.size
  have hgm : w1.heap.size ≤ gm := Nat.le_trans hz2 hm3.hB
  have ht3 : Mid w3 w1.heap.size g gm v2 v3 [] 0 false 0 [] 0 (-1) := ⟨hd2.below hb3, hm3.mono hz2, fun k h1 h2 => by
    have := hd2.lt k h1
    have := hm3.ge k h2
    omega⟩
  have hs0 : scanL [] = [] := scanL_none (firstL_short (by simp))
  have hz0 : sizeL (scanL []) = 0 := by rw [hs0]; rfl
  clear hd2 hm3 hb3 hbw2
  go_wp2_with fail
  refine (walOpen_whole ht3.dk 0 hz0 (by simp) (by simp) (Tab.below ht hbw3)).mono ?_
  rintro e w4 ⟨gl4, u4x, rfl, ho4, hlg4, hgl4, hb4⟩
  obtain ⟨A4x, c4x, rfl, _, _, _⟩ := ho4.seg
  have hbw4 := Below.next' hbw3 hb4 hbw3.size
  have ht4 := ht3.below hb4
  have hng4 : ¬ DkS g v2 gl4 := fun hk => by have := ht3.dk.lt gl4 hk; omega
  have hnm4 : ¬ DkS gm v3 gl4 := fun hk => by have := ht3.mm.lt gl4 hk; omega
  have hglB4 : w.heap.size ≤ gl4 := Nat.le_trans hbw3.size hgl4
  clear ht3 hbw3 hb4 hs0 hz0 ho4 hgl4
  go_wp2_with fail
  go_loopw [5, 8, 9, 10, 11, 12, 13, 14, 15, 16, 17, 18] (fun lg sz i _ _ _ _ _ _ _ _ _ w' => ∃ (j gl z : Nat) (v vm : Value) (q : List UInt8) (s : Nat) (f : Bool) (cd cm : Int), j ≤ n ∧ lg = .pointer (some ⟨gl, 0, none⟩) ∧ sz = .int .i64 (z : Int) ∧ i = .int .i64 (j : Int) ∧ Mid w' w1.heap.size g gm v vm q s f cd q s cm ∧ Rl f cd cm ∧ Lg w' gl g (z : Int) ∧ ¬ DkS g v gl ∧ ¬ DkS gm vm gl ∧ w.heap.size ≤ gl ∧ q.length ≤ 68 * j ∧ z ≤ 68 * j ∧ Below w.heap.size w w') (fun _ _ i _ _ _ _ _ _ _ _ _ _ => n - (intOf i).toNat)
  case atStart => exact ⟨0, gl4, 0, v2, v3, [], 0, false, 0, -1, by omega, rfl, rfl, rfl, ht4, .inl ⟨rfl, rfl⟩, hlg4, hng4, hnm4, hglB4, by simp, by omega, hbw4⟩
  case round =>
    clear ht4 hbw4 hlg4 hng4 hnm4 hglB4
    obtain ⟨k, gl, z, v, vm, q, s, f, cd, cm, hk, rfl, rfl, rfl, htw, hrl, hlg, hng, hnmg, hglB, hq, hzk, hbw⟩ := hrel
    by_cases hlt : k < n
    · obtain ⟨x, hx⟩ : ∃ x, L[k]'(by rw [ha.len]; exact hlt) = x := ⟨_, rfl⟩
      obtain ⟨gA, oA, B, m, cB, rfl, q0, q1, q2, hsB0, hmc, hcm, hxd, hxk⟩ := ha.at_ hlt x hx
      clear hx
      obtain ⟨xd, xp, xk⟩ := x
      simp only at q0 q2 hsB0 hxd hxk
      have q0 := cell_below hbw q0
      have q1 := cell_below hbw q1
      have q2 := cell_below hbw q2
      have hsB := hsB0.below hbw
      by_cases hm : m ≤ 60
      · have dmm : decide ((60 : Int) < (m : Int)) = false := decide_eq_false (by omega)
        obtain ⟨r, hr⟩ : ∃ r, xd % 8 = r := ⟨_, rfl⟩
        have hm1 : (xd : Int) % 8 = (r : Int) := by omega
        have hm2 : Int.tmod (xd : Int) 8 = (r : Int) := by rw [Int.tmod_eq_emod_of_nonneg (by omega)]; omega
        have hc : r = 0 ∨ r = 1 ∨ r = 2 ∨ r = 3 ∨ r = 4 ∨ r = 5 ∨ r = 6 ∨ r = 7 := by omega
        obtain ⟨y6, hy6⟩ : ∃ y, xk % 6 = y := ⟨_, rfl⟩
        have hy1 : (xk : Int) % 6 = (y6 : Int) := by omega
        have hy2 : Int.tmod (xk : Int) 6 = (y6 : Int) := by rw [Int.tmod_eq_emod_of_nonneg (by omega)]; omega
        have hy7 : y6 < 6 := by omega
        clear hr hy6
        have hltd := htw.dk.lt
        have hltm := htw.mm.lt
        have hltg := hlg.lt
        have hx0 : (wr.alloc (.cells #[.int .u8 (xd : Int), .slice B m cB, .int .u8 (xk : Int)] 46)).cell? ⟨wr.heap.size, 0, none⟩ = some (.int .u8 (xd : Int)) := by simp
        have hx1' : (wr.alloc (.cells #[.int .u8 (xd : Int), .slice B m cB, .int .u8 (xk : Int)] 46)).cell? ⟨wr.heap.size, 1, none⟩ = some (.slice B m cB) := by simp
        have hx2' : (wr.alloc (.cells #[.int .u8 (xd : Int), .slice B m cB, .int .u8 (xk : Int)] 46)).cell? ⟨wr.heap.size, 2, none⟩ = some (.int .u8 (xk : Int)) := by simp
        have ht4 := htw.alloc (.cells #[.int .u8 (xd : Int), .slice B m cB, .int .u8 (xk : Int)] 46)
        have hsB4 := hsB.alloc (.cells #[.int .u8 (xd : Int), .slice B m cB, .int .u8 (xk : Int)] 46)
        have hbw4 := hbw.alloc hbw.size (.cells #[.int .u8 (xd : Int), .slice B m cB, .int .u8 (xk : Int)] 46)
        have hlg4 := hlg.below ((Below.refl wr.heap.size wr).alloc (Nat.le_refl _) (.cells #[.int .u8 (xd : Int), .slice B m cB, .int .u8 (xk : Int)] 46))
        obtain ⟨b, hb⟩ : ∃ b, wr.heap.size = b := ⟨_, rfl⟩
        have HB := Lib.hid hb
        have hnd : ∀ (S : Nat → Prop), (∀ k, S k → k < b) → ¬ S b := fun S h hs => by have := h b hs; omega
        rw [hb] at hx0 hx1' hx2' hltd hltm hltg
        obtain ⟨w4, hw4⟩ : ∃ w4, w4 = wr.alloc (.cells #[.int .u8 (xd : Int), .slice B m cB, .int .u8 (xk : Int)] 46) := ⟨_, rfl⟩
        rw [← hw4] at hx0 hx1' hx2' ht4 hsB4 hbw4 hlg4
        have hnb : ¬ DkS g v b := hnd _ hltd
        have hnm : ¬ DkS gm vm b := hnd _ hltm
        have hgb : b ≠ gl := by omega
        have hbk : wk f cd = wm cm := hrl.wk.symm
        obtain ⟨bk, hbk2⟩ : ∃ bk, wm cm = bk := ⟨_, rfl⟩
        rw [hbk2] at hbk
        have hrl2 := hrl.dn (fun e => (ht4.dk.hc e).1)
        have hggl : g ≠ gl := fun e => hng (.inl e.symm)
        obtain ⟨fr, hfr⟩ : ∃ fr, frameL xp = fr := ⟨_, rfl⟩
        have HFR := Lib.hid hfr
        have HFL := Lib.hid (show fr.length = 8 + m by rw [← hfr, frameL_length, hsB0.1])
        obtain ⟨z8, hz8⟩ : ∃ z8, z + (8 + m) = z8 := ⟨_, rfl⟩
        have HZ8 := Lib.hid hz8
        have hw8a : IntKind.i64.wrap (8 + (m : Int)) = 8 + (m : Int) := IntWalk.i64_in _ (by omega)
        have hw8b : IntKind.i64.wrap ((z : Int) + (8 + (m : Int))) = (z8 : Int) := by rw [IntWalk.i64_in _ (by omega)]; omega
        have hgMm : ∀ k, DkS gm vm k → w1.heap.size ≤ k := htw.mm.ge
        clear htw hbw hsB hnd hltd hltm hb hlg hfr hz8
        go_upto_region 15 with fail
        rw [HB.out, ← hw4]
        clear q0 q1 q2 hw4 HB
        go_cut [53] (fun t53 wc => t53 = .int .u8 (r : Int) ∧ w4 = wc)
        case first =>
          go_wp2
          go_meet
          exact ⟨rfl, rfl⟩
        case rest =>
        obtain ⟨rfl, hwc⟩ := hcut
        subst hwc
        rename_i hKK
        refine hKK _ _ ?_
        go_cut [5, 8, 11] (fun lg sz okk wc => ∃ (gl8 z8 : Nat) (v8 vm8 : Value) (q8 : List UInt8) (s8 : Nat) (f8 : Bool) (c8 cm8 : Int), lg = .pointer (some ⟨gl8, 0, none⟩) ∧ sz = .int .i64 (z8 : Int) ∧ okk = .bool true ∧ Mid wc w1.heap.size g gm v8 vm8 q8 s8 f8 c8 q8 s8 cm8 ∧ Rl f8 c8 cm8 ∧ Lg wc gl8 g (z8 : Int) ∧ ¬ DkS g v8 gl8 ∧ ¬ DkS gm vm8 gl8 ∧ w.heap.size ≤ gl8 ∧ q8.length ≤ 68 * k + 68 ∧ z8 ≤ 68 * k + 68 ∧ Below w.heap.size w wc)
        case first =>
          rcases hc with rfl | rfl | rfl | rfl | rfl | rfl | rfl | rfl
          · rcases bk with _ | _
            · go_wp2_with fail
              refine (rframe_any B m cB xp _ hsB4 (by omega)).mono ?_
              rw [HFR.out]
              rintro e w5 ⟨v5, rfl, ho5, hb5⟩
              have hlt5 := ho5.lt
              obtain ⟨A5, c5, rfl, hs5, _, _⟩ := formsk6 ho5 (8 + m) HFL.out
              have ht5 := ht4.below hb5
              have hsB5 := hsB4.below hb5
              have hlg5 := hlg4.below hb5
              have hx15 := cell_below hb5 hx1'
              have hbw5 := Below.next' hbw4 hb5 hbw4.size
              have hg4 := ht4.mm.mc.lt
              clear ht4 hsB4 hlg4 hx0 hx1' hx2' hbw4 hb5 ho5
              go_wp2_with fail
              refine (rappend_un ht5.mm false hbk2 A5 (8 + m) c5 fr hs5 (fun _ a e => by subst e; have := (hlt5 a.block rfl).1; omega) (by omega)).mono ?_
              rintro e w6 ⟨rfl, v6, hd6, ho6, hm6⟩
              rw [if_neg (by simp)] at hd6
              rw [show e9 false = 9 from rfl]
              have hsB6 := hsB5.only ho6 (fun h a e hk => by have := hsB0.lt h a e; have := hgMm _ hk; omega)
              have hlg6 := hlg5.only ho6 hnmg
              have hx16 := ho6.cell hx15 hnm
              have hbw6 := ht5.belowm hbw5 hz1 ho6
              have hnm6 := dks_moved6 hnmg hm6 hlg5.lt
              have ht6 := ht5.m hd6 ho6 hm6
              clear ht5 hsB5 hlg5 hx15 hbw5 hd6 ho6 hm6 hs5 hlt5
              go_wp2_with fail
              refine (walAppend_any hlg6 ht6.dk false hbk B m cB xp hsB6 (by omega) (by omega) hng (by omega) (Tab.below ht hbw6)).mono ?_
              rw [HFR.out]
              rintro e w7 ⟨rfl, v7, hd7, hlg8, ho7, hm7⟩
              rw [if_neg (by simp)] at hd7
              rw [if_neg (by simp)] at hlg8
              rw [show e9 false = 9 from rfl]
              have hx17 := ho7.cell hx16 (fun h => by
                rcases h with h | h
                · exact hnb h
                · exact hgb h)
              have hng8 := dks_moved6 hng hm7 hlg6.lt
              have hbw8 := ho7.below hbw6 (fun k hk => by
                rcases hk with hk | hk
                · have := ht6.dk.ge k hk; omega
                · rw [hk]; exact hglB) hbw6.size
              have ht7 : Mid w7 w1.heap.size g gm v7 v6 q s f (dn f cd) q s (dm cm) := ⟨hd7, ht6.mm.only ho7 (fun k hk hs => by
                rcases hs with hs | hs
                · exact ht6.ap k hs hk
                · rw [hs] at hk; exact hnm6 hk), fun k h1 h2 => by
                rcases h1 with h1 | h1
                · subst h1; exact ht6.ap _ (.inl rfl) h2
                · rcases hm7 k h1 with h3 | h3
                  · exact ht6.ap k (.inr h3) h2
                  · have := ht6.mm.lt k h2; omega⟩
              have hnm8 := hnm6
              clear ht6 hsB6 hlg6 hx16 hbw6 hd7 ho7 hm7 hnm6
              have T8 : ∃ (v8 vm8 : Value) (q8 : List UInt8) (s8 : Nat) (f8 : Bool) (c8 cm8 : Int), Mid w7 w1.heap.size g gm v8 vm8 q8 s8 f8 c8 q8 s8 cm8 ∧ Rl f8 c8 cm8 ∧ q8.length ≤ 68 * k + 68 ∧ ¬ DkS g v8 gl ∧ ¬ DkS gm vm8 gl := ⟨_, _, _, _, _, _, _, ht7, hrl2, by omega, hng8, hnm8⟩
              obtain ⟨v8, vm8, q8, s8, f8, c8, cm8, ht8, hrl8, hl8, hng9, hnm9⟩ := T8
              have hz9 : z ≤ 68 * k + 68 := by omega
              clear ht7 hrl2 hrl hbk hbk2 hnb hnm hng8 hnm8 hng hnmg
              go_wp2
              go_meet
              exact ⟨gl, z, v8, vm8, q8, s8, f8, c8, cm8, rfl, rfl, rfl, ht8, hrl8, hlg8, hng9, hnm9, hglB, hl8, hz9, hbw8⟩
            · go_wp2_with fail
              refine (rframe_any B m cB xp _ hsB4 (by omega)).mono ?_
              rw [HFR.out]
              rintro e w5 ⟨v5, rfl, ho5, hb5⟩
              have hlt5 := ho5.lt
              obtain ⟨A5, c5, rfl, hs5, _, _⟩ := formsk6 ho5 (8 + m) HFL.out
              have ht5 := ht4.below hb5
              have hsB5 := hsB4.below hb5
              have hlg5 := hlg4.below hb5
              have hx15 := cell_below hb5 hx1'
              have hbw5 := Below.next' hbw4 hb5 hbw4.size
              have hg4 := ht4.mm.mc.lt
              clear ht4 hsB4 hlg4 hx0 hx1' hx2' hbw4 hb5 ho5
              go_wp2_with fail
              refine (rappend_un ht5.mm true hbk2 A5 (8 + m) c5 fr hs5 (fun _ a e => by subst e; have := (hlt5 a.block rfl).1; omega) (by omega)).mono ?_
              rintro e w6 ⟨rfl, v6, hd6, ho6, hm6⟩
              rw [if_pos rfl] at hd6
              rw [show e9 true = 0 from rfl]
              have hsB6 := hsB5.only ho6 (fun h a e hk => by have := hsB0.lt h a e; have := hgMm _ hk; omega)
              have hlg6 := hlg5.only ho6 hnmg
              have hx16 := ho6.cell hx15 hnm
              have hbw6 := ht5.belowm hbw5 hz1 ho6
              have hnm6 := dks_moved6 hnmg hm6 hlg5.lt
              have ht6 := ht5.m hd6 ho6 hm6
              clear ht5 hsB5 hlg5 hx15 hbw5 hd6 ho6 hm6 hs5 hlt5
              go_wp2_with fail
              refine (walAppend_any hlg6 ht6.dk true hbk B m cB xp hsB6 (by omega) (by omega) hng (by omega) (Tab.below ht hbw6)).mono ?_
              rw [HFR.out]
              rintro e w7 ⟨rfl, v7, hd7, hlg8, ho7, hm7⟩
              rw [if_pos rfl] at hd7
              rw [if_pos rfl, HZ8.out] at hlg8
              rw [show e9 true = 0 from rfl]
              have hx17 := ho7.cell hx16 (fun h => by
                rcases h with h | h
                · exact hnb h
                · exact hgb h)
              have hng8 := dks_moved6 hng hm7 hlg6.lt
              have hbw8 := ho7.below hbw6 (fun k hk => by
                rcases hk with hk | hk
                · have := ht6.dk.ge k hk; omega
                · rw [hk]; exact hglB) hbw6.size
              have ht7 : Mid w7 w1.heap.size g gm v7 v6 (q ++ fr) s f (dn f cd) (q ++ fr) s (dm cm) := ⟨hd7, ht6.mm.only ho7 (fun k hk hs => by
                rcases hs with hs | hs
                · exact ht6.ap k hs hk
                · rw [hs] at hk; exact hnm6 hk), fun k h1 h2 => by
                rcases h1 with h1 | h1
                · subst h1; exact ht6.ap _ (.inl rfl) h2
                · rcases hm7 k h1 with h3 | h3
                  · exact ht6.ap k (.inr h3) h2
                  · have := ht6.mm.lt k h2; omega⟩
              have hnm8 := hnm6
              clear ht6 hsB6 hlg6 hx16 hbw6 hd7 ho7 hm7 hnm6
              have T8 : ∃ (v8 vm8 : Value) (q8 : List UInt8) (s8 : Nat) (f8 : Bool) (c8 cm8 : Int), Mid w7 w1.heap.size g gm v8 vm8 q8 s8 f8 c8 q8 s8 cm8 ∧ Rl f8 c8 cm8 ∧ q8.length ≤ 68 * k + 68 ∧ ¬ DkS g v8 gl ∧ ¬ DkS gm vm8 gl := ⟨_, _, _, _, _, _, _, ht7, hrl2, by rw [List.length_append, HFL.out]; omega, hng8, hnm8⟩
              obtain ⟨v8, vm8, q8, s8, f8, c8, cm8, ht8, hrl8, hl8, hng9, hnm9⟩ := T8
              have hz9 : z8 ≤ 68 * k + 68 := by rw [← HZ8.out]; omega
              clear ht7 hrl2 hrl hbk hbk2 hnb hnm hng8 hnm8 hng hnmg
              go_wp2
              go_meet
              exact ⟨gl, z8, v8, vm8, q8, s8, f8, c8, cm8, rfl, rfl, rfl, ht8, hrl8, hlg8, hng9, hnm9, hglB, hl8, hz9, hbw8⟩
          · rcases bk with _ | _
            · go_wp2_with fail
              refine (rframe_any B m cB xp _ hsB4 (by omega)).mono ?_
              rw [HFR.out]
              rintro e w5 ⟨v5, rfl, ho5, hb5⟩
              have hlt5 := ho5.lt
              obtain ⟨A5, c5, rfl, hs5, _, _⟩ := formsk6 ho5 (8 + m) HFL.out
              have ht5 := ht4.below hb5
              have hsB5 := hsB4.below hb5
              have hlg5 := hlg4.below hb5
              have hx15 := cell_below hb5 hx1'
              have hbw5 := Below.next' hbw4 hb5 hbw4.size
              have hg4 := ht4.mm.mc.lt
              clear ht4 hsB4 hlg4 hx0 hx1' hx2' hbw4 hb5 ho5
              go_wp2_with fail
              refine (rappend_un ht5.mm false hbk2 A5 (8 + m) c5 fr hs5 (fun _ a e => by subst e; have := (hlt5 a.block rfl).1; omega) (by omega)).mono ?_
              rintro e w6 ⟨rfl, v6, hd6, ho6, hm6⟩
              rw [if_neg (by simp)] at hd6
              rw [show e9 false = 9 from rfl]
              have hsB6 := hsB5.only ho6 (fun h a e hk => by have := hsB0.lt h a e; have := hgMm _ hk; omega)
              have hlg6 := hlg5.only ho6 hnmg
              have hx16 := ho6.cell hx15 hnm
              have hbw6 := ht5.belowm hbw5 hz1 ho6
              have hnm6 := dks_moved6 hnmg hm6 hlg5.lt
              have ht6 := ht5.m hd6 ho6 hm6
              clear ht5 hsB5 hlg5 hx15 hbw5 hd6 ho6 hm6 hs5 hlt5
              go_wp2_with fail
              refine (walAppend_any hlg6 ht6.dk false hbk B m cB xp hsB6 (by omega) (by omega) hng (by omega) (Tab.below ht hbw6)).mono ?_
              rw [HFR.out]
              rintro e w7 ⟨rfl, v7, hd7, hlg8, ho7, hm7⟩
              rw [if_neg (by simp)] at hd7
              rw [if_neg (by simp)] at hlg8
              rw [show e9 false = 9 from rfl]
              have hx17 := ho7.cell hx16 (fun h => by
                rcases h with h | h
                · exact hnb h
                · exact hgb h)
              have hng8 := dks_moved6 hng hm7 hlg6.lt
              have hbw8 := ho7.below hbw6 (fun k hk => by
                rcases hk with hk | hk
                · have := ht6.dk.ge k hk; omega
                · rw [hk]; exact hglB) hbw6.size
              have ht7 : Mid w7 w1.heap.size g gm v7 v6 q s f (dn f cd) q s (dm cm) := ⟨hd7, ht6.mm.only ho7 (fun k hk hs => by
                rcases hs with hs | hs
                · exact ht6.ap k hs hk
                · rw [hs] at hk; exact hnm6 hk), fun k h1 h2 => by
                rcases h1 with h1 | h1
                · subst h1; exact ht6.ap _ (.inl rfl) h2
                · rcases hm7 k h1 with h3 | h3
                  · exact ht6.ap k (.inr h3) h2
                  · have := ht6.mm.lt k h2; omega⟩
              have hnm8 := hnm6
              clear ht6 hsB6 hlg6 hx16 hbw6 hd7 ho7 hm7 hnm6
              have T8 : ∃ (v8 vm8 : Value) (q8 : List UInt8) (s8 : Nat) (f8 : Bool) (c8 cm8 : Int), Mid w7 w1.heap.size g gm v8 vm8 q8 s8 f8 c8 q8 s8 cm8 ∧ Rl f8 c8 cm8 ∧ q8.length ≤ 68 * k + 68 ∧ ¬ DkS g v8 gl ∧ ¬ DkS gm vm8 gl := ⟨_, _, _, _, _, _, _, ht7, hrl2, by omega, hng8, hnm8⟩
              obtain ⟨v8, vm8, q8, s8, f8, c8, cm8, ht8, hrl8, hl8, hng9, hnm9⟩ := T8
              have hz9 : z ≤ 68 * k + 68 := by omega
              clear ht7 hrl2 hrl hbk hbk2 hnb hnm hng8 hnm8 hng hnmg
              go_wp2
              go_meet
              exact ⟨gl, z, v8, vm8, q8, s8, f8, c8, cm8, rfl, rfl, rfl, ht8, hrl8, hlg8, hng9, hnm9, hglB, hl8, hz9, hbw8⟩
            · go_wp2_with fail
              refine (rframe_any B m cB xp _ hsB4 (by omega)).mono ?_
              rw [HFR.out]
              rintro e w5 ⟨v5, rfl, ho5, hb5⟩
              have hlt5 := ho5.lt
              obtain ⟨A5, c5, rfl, hs5, _, _⟩ := formsk6 ho5 (8 + m) HFL.out
              have ht5 := ht4.below hb5
              have hsB5 := hsB4.below hb5
              have hlg5 := hlg4.below hb5
              have hx15 := cell_below hb5 hx1'
              have hbw5 := Below.next' hbw4 hb5 hbw4.size
              have hg4 := ht4.mm.mc.lt
              clear ht4 hsB4 hlg4 hx0 hx1' hx2' hbw4 hb5 ho5
              go_wp2_with fail
              refine (rappend_un ht5.mm true hbk2 A5 (8 + m) c5 fr hs5 (fun _ a e => by subst e; have := (hlt5 a.block rfl).1; omega) (by omega)).mono ?_
              rintro e w6 ⟨rfl, v6, hd6, ho6, hm6⟩
              rw [if_pos rfl] at hd6
              rw [show e9 true = 0 from rfl]
              have hsB6 := hsB5.only ho6 (fun h a e hk => by have := hsB0.lt h a e; have := hgMm _ hk; omega)
              have hlg6 := hlg5.only ho6 hnmg
              have hx16 := ho6.cell hx15 hnm
              have hbw6 := ht5.belowm hbw5 hz1 ho6
              have hnm6 := dks_moved6 hnmg hm6 hlg5.lt
              have ht6 := ht5.m hd6 ho6 hm6
              clear ht5 hsB5 hlg5 hx15 hbw5 hd6 ho6 hm6 hs5 hlt5
              go_wp2_with fail
              refine (walAppend_any hlg6 ht6.dk true hbk B m cB xp hsB6 (by omega) (by omega) hng (by omega) (Tab.below ht hbw6)).mono ?_
              rw [HFR.out]
              rintro e w7 ⟨rfl, v7, hd7, hlg8, ho7, hm7⟩
              rw [if_pos rfl] at hd7
              rw [if_pos rfl, HZ8.out] at hlg8
              rw [show e9 true = 0 from rfl]
              have hx17 := ho7.cell hx16 (fun h => by
                rcases h with h | h
                · exact hnb h
                · exact hgb h)
              have hng8 := dks_moved6 hng hm7 hlg6.lt
              have hbw8 := ho7.below hbw6 (fun k hk => by
                rcases hk with hk | hk
                · have := ht6.dk.ge k hk; omega
                · rw [hk]; exact hglB) hbw6.size
              have ht7 : Mid w7 w1.heap.size g gm v7 v6 (q ++ fr) s f (dn f cd) (q ++ fr) s (dm cm) := ⟨hd7, ht6.mm.only ho7 (fun k hk hs => by
                rcases hs with hs | hs
                · exact ht6.ap k hs hk
                · rw [hs] at hk; exact hnm6 hk), fun k h1 h2 => by
                rcases h1 with h1 | h1
                · subst h1; exact ht6.ap _ (.inl rfl) h2
                · rcases hm7 k h1 with h3 | h3
                  · exact ht6.ap k (.inr h3) h2
                  · have := ht6.mm.lt k h2; omega⟩
              have hnm8 := hnm6
              clear ht6 hsB6 hlg6 hx16 hbw6 hd7 ho7 hm7 hnm6
              have T8 : ∃ (v8 vm8 : Value) (q8 : List UInt8) (s8 : Nat) (f8 : Bool) (c8 cm8 : Int), Mid w7 w1.heap.size g gm v8 vm8 q8 s8 f8 c8 q8 s8 cm8 ∧ Rl f8 c8 cm8 ∧ q8.length ≤ 68 * k + 68 ∧ ¬ DkS g v8 gl ∧ ¬ DkS gm vm8 gl := ⟨_, _, _, _, _, _, _, ht7, hrl2, by rw [List.length_append, HFL.out]; omega, hng8, hnm8⟩
              obtain ⟨v8, vm8, q8, s8, f8, c8, cm8, ht8, hrl8, hl8, hng9, hnm9⟩ := T8
              have hz9 : z8 ≤ 68 * k + 68 := by rw [← HZ8.out]; omega
              clear ht7 hrl2 hrl hbk hbk2 hnb hnm hng8 hnm8 hng hnmg
              go_wp2
              go_meet
              exact ⟨gl, z8, v8, vm8, q8, s8, f8, c8, cm8, rfl, rfl, rfl, ht8, hrl8, hlg8, hng9, hnm9, hglB, hl8, hz9, hbw8⟩
          · rcases bk with _ | _
            · go_wp2_with fail
              refine (rframe_any B m cB xp _ hsB4 (by omega)).mono ?_
              rw [HFR.out]
              rintro e w5 ⟨v5, rfl, ho5, hb5⟩
              have hlt5 := ho5.lt
              obtain ⟨A5, c5, rfl, hs5, _, _⟩ := formsk6 ho5 (8 + m) HFL.out
              have ht5 := ht4.below hb5
              have hsB5 := hsB4.below hb5
              have hlg5 := hlg4.below hb5
              have hx15 := cell_below hb5 hx1'
              have hbw5 := Below.next' hbw4 hb5 hbw4.size
              have hg4 := ht4.mm.mc.lt
              clear ht4 hsB4 hlg4 hx0 hx1' hx2' hbw4 hb5 ho5
              go_wp2_with fail
              refine (rappend_un ht5.mm false hbk2 A5 (8 + m) c5 fr hs5 (fun _ a e => by subst e; have := (hlt5 a.block rfl).1; omega) (by omega)).mono ?_
              rintro e w6 ⟨rfl, v6, hd6, ho6, hm6⟩
              rw [if_neg (by simp)] at hd6
              rw [show e9 false = 9 from rfl]
              have hsB6 := hsB5.only ho6 (fun h a e hk => by have := hsB0.lt h a e; have := hgMm _ hk; omega)
              have hlg6 := hlg5.only ho6 hnmg
              have hx16 := ho6.cell hx15 hnm
              have hbw6 := ht5.belowm hbw5 hz1 ho6
              have hnm6 := dks_moved6 hnmg hm6 hlg5.lt
              have ht6 := ht5.m hd6 ho6 hm6
              clear ht5 hsB5 hlg5 hx15 hbw5 hd6 ho6 hm6 hs5 hlt5
              go_wp2_with fail
              refine (walAppend_any hlg6 ht6.dk false hbk B m cB xp hsB6 (by omega) (by omega) hng (by omega) (Tab.below ht hbw6)).mono ?_
              rw [HFR.out]
              rintro e w7 ⟨rfl, v7, hd7, hlg8, ho7, hm7⟩
              rw [if_neg (by simp)] at hd7
              rw [if_neg (by simp)] at hlg8
              rw [show e9 false = 9 from rfl]
              have hx17 := ho7.cell hx16 (fun h => by
                rcases h with h | h
                · exact hnb h
                · exact hgb h)
              have hng8 := dks_moved6 hng hm7 hlg6.lt
              have hbw8 := ho7.below hbw6 (fun k hk => by
                rcases hk with hk | hk
                · have := ht6.dk.ge k hk; omega
                · rw [hk]; exact hglB) hbw6.size
              have ht7 : Mid w7 w1.heap.size g gm v7 v6 q s f (dn f cd) q s (dm cm) := ⟨hd7, ht6.mm.only ho7 (fun k hk hs => by
                rcases hs with hs | hs
                · exact ht6.ap k hs hk
                · rw [hs] at hk; exact hnm6 hk), fun k h1 h2 => by
                rcases h1 with h1 | h1
                · subst h1; exact ht6.ap _ (.inl rfl) h2
                · rcases hm7 k h1 with h3 | h3
                  · exact ht6.ap k (.inr h3) h2
                  · have := ht6.mm.lt k h2; omega⟩
              have hnm8 := hnm6
              clear ht6 hsB6 hlg6 hx16 hbw6 hd7 ho7 hm7 hnm6
              have T8 : ∃ (v8 vm8 : Value) (q8 : List UInt8) (s8 : Nat) (f8 : Bool) (c8 cm8 : Int), Mid w7 w1.heap.size g gm v8 vm8 q8 s8 f8 c8 q8 s8 cm8 ∧ Rl f8 c8 cm8 ∧ q8.length ≤ 68 * k + 68 ∧ ¬ DkS g v8 gl ∧ ¬ DkS gm vm8 gl := ⟨_, _, _, _, _, _, _, ht7, hrl2, by omega, hng8, hnm8⟩
              obtain ⟨v8, vm8, q8, s8, f8, c8, cm8, ht8, hrl8, hl8, hng9, hnm9⟩ := T8
              have hz9 : z ≤ 68 * k + 68 := by omega
              clear ht7 hrl2 hrl hbk hbk2 hnb hnm hng8 hnm8 hng hnmg
              go_wp2
              go_meet
              exact ⟨gl, z, v8, vm8, q8, s8, f8, c8, cm8, rfl, rfl, rfl, ht8, hrl8, hlg8, hng9, hnm9, hglB, hl8, hz9, hbw8⟩
            · go_wp2_with fail
              refine (rframe_any B m cB xp _ hsB4 (by omega)).mono ?_
              rw [HFR.out]
              rintro e w5 ⟨v5, rfl, ho5, hb5⟩
              have hlt5 := ho5.lt
              obtain ⟨A5, c5, rfl, hs5, _, _⟩ := formsk6 ho5 (8 + m) HFL.out
              have ht5 := ht4.below hb5
              have hsB5 := hsB4.below hb5
              have hlg5 := hlg4.below hb5
              have hx15 := cell_below hb5 hx1'
              have hbw5 := Below.next' hbw4 hb5 hbw4.size
              have hg4 := ht4.mm.mc.lt
              clear ht4 hsB4 hlg4 hx0 hx1' hx2' hbw4 hb5 ho5
              go_wp2_with fail
              refine (rappend_un ht5.mm true hbk2 A5 (8 + m) c5 fr hs5 (fun _ a e => by subst e; have := (hlt5 a.block rfl).1; omega) (by omega)).mono ?_
              rintro e w6 ⟨rfl, v6, hd6, ho6, hm6⟩
              rw [if_pos rfl] at hd6
              rw [show e9 true = 0 from rfl]
              have hsB6 := hsB5.only ho6 (fun h a e hk => by have := hsB0.lt h a e; have := hgMm _ hk; omega)
              have hlg6 := hlg5.only ho6 hnmg
              have hx16 := ho6.cell hx15 hnm
              have hbw6 := ht5.belowm hbw5 hz1 ho6
              have hnm6 := dks_moved6 hnmg hm6 hlg5.lt
              have ht6 := ht5.m hd6 ho6 hm6
              clear ht5 hsB5 hlg5 hx15 hbw5 hd6 ho6 hm6 hs5 hlt5
              go_wp2_with fail
              refine (walAppend_any hlg6 ht6.dk true hbk B m cB xp hsB6 (by omega) (by omega) hng (by omega) (Tab.below ht hbw6)).mono ?_
              rw [HFR.out]
              rintro e w7 ⟨rfl, v7, hd7, hlg8, ho7, hm7⟩
              rw [if_pos rfl] at hd7
              rw [if_pos rfl, HZ8.out] at hlg8
              rw [show e9 true = 0 from rfl]
              have hx17 := ho7.cell hx16 (fun h => by
                rcases h with h | h
                · exact hnb h
                · exact hgb h)
              have hng8 := dks_moved6 hng hm7 hlg6.lt
              have hbw8 := ho7.below hbw6 (fun k hk => by
                rcases hk with hk | hk
                · have := ht6.dk.ge k hk; omega
                · rw [hk]; exact hglB) hbw6.size
              have ht7 : Mid w7 w1.heap.size g gm v7 v6 (q ++ fr) s f (dn f cd) (q ++ fr) s (dm cm) := ⟨hd7, ht6.mm.only ho7 (fun k hk hs => by
                rcases hs with hs | hs
                · exact ht6.ap k hs hk
                · rw [hs] at hk; exact hnm6 hk), fun k h1 h2 => by
                rcases h1 with h1 | h1
                · subst h1; exact ht6.ap _ (.inl rfl) h2
                · rcases hm7 k h1 with h3 | h3
                  · exact ht6.ap k (.inr h3) h2
                  · have := ht6.mm.lt k h2; omega⟩
              have hnm8 := hnm6
              clear ht6 hsB6 hlg6 hx16 hbw6 hd7 ho7 hm7 hnm6
              have T8 : ∃ (v8 vm8 : Value) (q8 : List UInt8) (s8 : Nat) (f8 : Bool) (c8 cm8 : Int), Mid w7 w1.heap.size g gm v8 vm8 q8 s8 f8 c8 q8 s8 cm8 ∧ Rl f8 c8 cm8 ∧ q8.length ≤ 68 * k + 68 ∧ ¬ DkS g v8 gl ∧ ¬ DkS gm vm8 gl := ⟨_, _, _, _, _, _, _, ht7, hrl2, by rw [List.length_append, HFL.out]; omega, hng8, hnm8⟩
              obtain ⟨v8, vm8, q8, s8, f8, c8, cm8, ht8, hrl8, hl8, hng9, hnm9⟩ := T8
              have hz9 : z8 ≤ 68 * k + 68 := by rw [← HZ8.out]; omega
              clear ht7 hrl2 hrl hbk hbk2 hnb hnm hng8 hnm8 hng hnmg
              go_wp2
              go_meet
              exact ⟨gl, z8, v8, vm8, q8, s8, f8, c8, cm8, rfl, rfl, rfl, ht8, hrl8, hlg8, hng9, hnm9, hglB, hl8, hz9, hbw8⟩
          · go_wp2_with fail
            refine (walSync_any hlg4 ht4.dk bk hbk).mono ?_
            rintro e w6 ⟨rfl, v6, hd6, ho6, hm6⟩
            have hlg6 := hlg4.only ho6 hng
            have hbw6 := ht4.belowd hbw4 hz1 ho6
            have ht6 := ht4.d hd6 ho6 hm6
            have hng8 := dks_moved6 hng hm6 hlg4.lt
            clear ht4 hsB4 hbw4 hx0 hx1' hx2' hd6 ho6 hm6 hlg4
            go_wp2_with fail
            refine (rsync_un ht6.mm bk hbk2).mono ?_
            rintro e w7 ⟨rfl, v7, hd7, ho7, hm7⟩
            have hlg8 := hlg6.only ho7 hnmg
            have hbw8 := ht6.belowm hbw6 hz1 ho7
            have hnm8 := dks_moved6 hnmg hm7 hlg6.lt
            have ht7 := ht6.m hd7 ho7 hm7
            clear ht6 hbw6 hd7 ho7 hm7 hlg6
            have T8 : ∃ (v8 vm8 : Value) (q8 : List UInt8) (s8 : Nat) (f8 : Bool) (c8 cm8 : Int), Mid w7 w1.heap.size g gm v8 vm8 q8 s8 f8 c8 q8 s8 cm8 ∧ Rl f8 c8 cm8 ∧ q8.length ≤ 68 * k + 68 ∧ ¬ DkS g v8 gl ∧ ¬ DkS gm vm8 gl := ⟨_, _, _, _, _, _, _, ht7, hrl2, by omega, hng8, hnm8⟩
            obtain ⟨v8, vm8, q8, s8, f8, c8, cm8, ht8, hrl8, hl8, hng9, hnm9⟩ := T8
            have hz9 : z ≤ 68 * k + 68 := by omega
            clear ht7 hrl2 hrl hbk hbk2 hnb hnm hng8 hnm8 hng hnmg
            go_wp2
            go_meet
            exact ⟨gl, z, v8, vm8, q8, s8, f8, c8, cm8, rfl, rfl, rfl, ht8, hrl8, hlg8, hng9, hnm9, hglB, hl8, hz9, hbw8⟩
          · go_wp2_with fail
            refine (walSync_any hlg4 ht4.dk bk hbk).mono ?_
            rintro e w6 ⟨rfl, v6, hd6, ho6, hm6⟩
            have hlg6 := hlg4.only ho6 hng
            have hbw6 := ht4.belowd hbw4 hz1 ho6
            have ht6 := ht4.d hd6 ho6 hm6
            have hng8 := dks_moved6 hng hm6 hlg4.lt
            clear ht4 hsB4 hbw4 hx0 hx1' hx2' hd6 ho6 hm6 hlg4
            go_wp2_with fail
            refine (rsync_un ht6.mm bk hbk2).mono ?_
            rintro e w7 ⟨rfl, v7, hd7, ho7, hm7⟩
            have hlg8 := hlg6.only ho7 hnmg
            have hbw8 := ht6.belowm hbw6 hz1 ho7
            have hnm8 := dks_moved6 hnmg hm7 hlg6.lt
            have ht7 := ht6.m hd7 ho7 hm7
            clear ht6 hbw6 hd7 ho7 hm7 hlg6
            have T8 : ∃ (v8 vm8 : Value) (q8 : List UInt8) (s8 : Nat) (f8 : Bool) (c8 cm8 : Int), Mid w7 w1.heap.size g gm v8 vm8 q8 s8 f8 c8 q8 s8 cm8 ∧ Rl f8 c8 cm8 ∧ q8.length ≤ 68 * k + 68 ∧ ¬ DkS g v8 gl ∧ ¬ DkS gm vm8 gl := ⟨_, _, _, _, _, _, _, ht7, hrl2, by omega, hng8, hnm8⟩
            obtain ⟨v8, vm8, q8, s8, f8, c8, cm8, ht8, hrl8, hl8, hng9, hnm9⟩ := T8
            have hz9 : z ≤ 68 * k + 68 := by omega
            clear ht7 hrl2 hrl hbk hbk2 hnb hnm hng8 hnm8 hng hnmg
            go_wp2
            go_meet
            exact ⟨gl, z, v8, vm8, q8, s8, f8, c8, cm8, rfl, rfl, rfl, ht8, hrl8, hlg8, hng9, hnm9, hglB, hl8, hz9, hbw8⟩
          · go_wp2_with fail
            refine (fail_any ht4.dk (y6 : Int) (by omega)).mono ?_
            rintro e w6 ⟨rfl, hd6, ho6'⟩
            have ho6 : Only w4 w6 (DkS g v) := ho6'.mono fun k _ e => .inl e
            have hlg6 := hlg4.only ho6 hng
            have hx26 := ho6.cell hx2' hnb
            have hbw6 := ht4.belowd hbw4 hz1 ho6
            have ht6 := ht4.d hd6 ho6 (Moved.refl _ _)
            have hng8 := hng
            clear ht4 hsB4 hbw4 hx0 hx1' hx2' hd6 ho6 ho6' hlg4
            go_wp2_with fail
            refine (rfail_any ht6.mm (y6 : Int) (by omega)).mono ?_
            rintro e w7 ⟨rfl, hd7, ho7'⟩
            have ho7 : Only w6 w7 (DkS gm vm) := ho7'.mono fun k _ e => .inl e
            have hlg8 := hlg6.only ho7 hnmg
            have hbw8 := ht6.belowm hbw6 hz1 ho7
            have hnm8 := hnmg
            have ht7 := ht6.m hd7 ho7 (Moved.refl _ _)
            clear ht6 hbw6 hd7 ho7 ho7' hlg6 hx26
            have T8 : ∃ (v8 vm8 : Value) (q8 : List UInt8) (s8 : Nat) (f8 : Bool) (c8 cm8 : Int), Mid w7 w1.heap.size g gm v8 vm8 q8 s8 f8 c8 q8 s8 cm8 ∧ Rl f8 c8 cm8 ∧ q8.length ≤ 68 * k + 68 ∧ ¬ DkS g v8 gl ∧ ¬ DkS gm vm8 gl := ⟨_, _, _, _, _, _, _, ht7, Rl.fail (y6 : Int), by omega, hng8, hnm8⟩
            obtain ⟨v8, vm8, q8, s8, f8, c8, cm8, ht8, hrl8, hl8, hng9, hnm9⟩ := T8
            have hz9 : z ≤ 68 * k + 68 := by omega
            clear ht7 hrl2 hrl hbk hbk2 hnb hnm hng8 hnm8 hng hnmg
            go_wp2
            go_meet
            exact ⟨gl, z, v8, vm8, q8, s8, f8, c8, cm8, rfl, rfl, rfl, ht8, hrl8, hlg8, hng9, hnm9, hglB, hl8, hz9, hbw8⟩
          · go_wp2_with fail
            refine (crash_any ht4.dk (xk : Int) (by omega)).mono ?_
            rintro e w6 ⟨rfl, v6, hd6, ho6', hv6⟩
            have ho6 : Only w4 w6 (DkS g v) := ho6'.mono fun k _ e => .inl e
            have hx26 := ho6.cell hx2' hnb
            have hbw6 := ht4.belowd hbw4 hz1 ho6
            have ht6 := ht4.d hd6 ho6 (Moved.of_eq hv6)
            clear ht4 hsB4 hbw4 hx0 hx1' hx2' hd6 ho6 ho6' hlg4
            go_wp2_with fail
            refine (rcrash_any ht6.mm (xk : Int) (by omega)).mono ?_
            rintro e w6b ⟨rfl, v6m, hd6m, ho6m', hm6m⟩
            have ho6m : Only w6 w6b (DkS gm vm) := ho6m'.mono fun k _ e => .inl e
            have hbw6b := ht6.belowm hbw6 hz1 ho6m
            have ht6b := ht6.m hd6m ho6m hm6m
            clear ht6 hbw6 hd6m ho6m ho6m' hm6m hx26
            obtain ⟨t, htt⟩ : ∃ t, s + min (xk : Int).toNat (q.length - s) = t := ⟨_, rfl⟩
            rw [htt] at ht6b
            obtain ⟨q5, hq5⟩ : ∃ q5, q.take t = q5 := ⟨_, rfl⟩
            rw [hq5] at ht6b
            have hq5l : q5.length ≤ 68 * k := by rw [← hq5, List.length_take]; omega
            obtain ⟨F, hF⟩ : ∃ F, scanL q5 = F := ⟨_, rfl⟩
            obtain ⟨zF, hzF⟩ : ∃ zF, sizeL F = zF := ⟨_, rfl⟩
            have hzq : zF ≤ q5.length := by have := scanL_size q5; rw [hF, hzF] at this; exact this
            have HF := Lib.hid hF
            have HZF := Lib.hid hzF
            have HFK := Lib.hid (show F.length ≤ 1000000 by have := length_le_size6 F; omega)
            clear htt hq5 hF hzF
            go_wp2_with fail
            refine (walOpen_true ht6b.dk (by omega) (Tab.below ht hbw6b)).mono ?_
            rw [HF.out, HZF.out]
            rintro e w6c ⟨gl8, u6, v6c, rfl, ho6c, hlg6c, hgl8, hd6c, hon6c, hv6c⟩
            have hbw6c := ht6b.belowd hbw6b hz1 hon6c
            have ht6c := ht6b.d hd6c hon6c (Moved.of_eq hv6c)
            have hng8 : ¬ DkS g v6c gl8 := fun hk => by
              have h1 : DkS g v6 gl8 := by
                rcases hk with h | h
                · exact .inl h
                · exact .inr (by rw [← hv6c]; exact h)
              have := ht6b.dk.lt gl8 h1
              omega
            have hnm6c : ¬ DkS gm v6m gl8 := fun hk => by have := ht6b.mm.lt gl8 hk; omega
            have hm6lt := ht6b.mm.lt
            have hgl8B : w.heap.size ≤ gl8 := Nat.le_trans hbw6b.size hgl8
            have hz6c := hon6c.size
            clear hd6c hon6c hv6c hbw6b
            obtain ⟨A6, c6, rfl, hs6, _, _⟩ := segk6 ho6c F.length rfl
            go_wp2_with fail
            refine (ropen_true ht6c.mm (by omega)).mono ?_
            rw [HF.out, HZF.out]
            rintro e w7 ⟨u7, v7, rfl, ho7, hd7, hon7, hm7⟩
            have hbw8' := ht6c.belowm hbw6c hz1 hon7
            have ht7' := ht6c.m hd7 hon7 hm7
            have hlg8' := hlg6c.only hon7 hnm6c
            have hnm8 := dks_moved6 hnm6c hm7 hlg6c.lt
            have ho6d := ho6c.only hon7 (fun k hk _ hs => by have := hm6lt k hs; omega)
            obtain ⟨A6', c6', e6, hs6d, _, _⟩ := segk6 ho6d F.length rfl
            injection e6 with e61 _ e62
            subst e61 e62
            obtain ⟨A7, c7, rfl, hs7, _, _⟩ := segk6 ho7 F.length rfl
            clear ht6b ht6c hlg6c hnm6c hm6lt hbw6c hs6 ho6c ho6d ho7 hd7 hon7 hm7 hgl8 hz6c
            obtain ⟨kF, hkF⟩ : ∃ kF, F.length = kF := ⟨_, rfl⟩
            have hkFb : kF ≤ 1000000 := by rw [← hkF]; exact HFK.out
            rw [hkF] at hs6d hs7 ⊢
            go_wp2_with fail
            refine (same_any A6 A7 kF kF c6 c7 F F _ hs6d hs7 hkFb).mono ?_
            rintro e w7b ⟨rfl, u9, rfl⟩
            rw [show (F == F) = true by simp]
            have hD := Below.drewN' (Below.refl w7.heap.size w7) u9
            have ht7 := ht7'.drewN u9
            have hlg8 := hlg8'.below hD
            have hbw8 := Below.drewN' hbw8' u9
            clear ht7' hlg8' hbw8' hs6d hs7 hD
            generalize w7.drewN u9 = w7 at *
            have T8 : ∃ (v8 vm8 : Value) (q8 : List UInt8) (s8 : Nat) (f8 : Bool) (c8 cm8 : Int), Mid w7 w1.heap.size g gm v8 vm8 q8 s8 f8 c8 q8 s8 cm8 ∧ Rl f8 c8 cm8 ∧ q8.length ≤ 68 * k + 68 ∧ ¬ DkS g v8 gl8 ∧ ¬ DkS gm vm8 gl8 := ⟨_, _, _, _, _, _, _, ht7, Rl.crash cd, by split <;> (first | (rw [List.length_take]; omega) | omega), hng8, hnm8⟩
            obtain ⟨v8, vm8, q8, s8, f8, c8, cm8, ht8, hrl8, hl8, hng9, hnm9⟩ := T8
            have hz9 : zF ≤ 68 * k + 68 := by omega
            clear ht7 hrl2 hrl hbk hbk2 hnb hnm hng8 hnm8 hng hnmg
            go_wp2
            go_meet
            exact ⟨gl8, zF, v8, vm8, q8, s8, f8, c8, cm8, rfl, rfl, rfl, ht8, hrl8, hlg8, hng9, hnm9, hgl8B, hl8, hz9, hbw8⟩
          · go_wp2_with fail
            refine (crash_any ht4.dk (xk : Int) (by omega)).mono ?_
            rintro e w6 ⟨rfl, v6, hd6, ho6', hv6⟩
            have ho6 : Only w4 w6 (DkS g v) := ho6'.mono fun k _ e => .inl e
            have hx26 := ho6.cell hx2' hnb
            have hbw6 := ht4.belowd hbw4 hz1 ho6
            have ht6 := ht4.d hd6 ho6 (Moved.of_eq hv6)
            clear ht4 hsB4 hbw4 hx0 hx1' hx2' hd6 ho6 ho6' hlg4
            go_wp2_with fail
            refine (rcrash_any ht6.mm (xk : Int) (by omega)).mono ?_
            rintro e w6b ⟨rfl, v6m, hd6m, ho6m', hm6m⟩
            have ho6m : Only w6 w6b (DkS gm vm) := ho6m'.mono fun k _ e => .inl e
            have hbw6b := ht6.belowm hbw6 hz1 ho6m
            have ht6b := ht6.m hd6m ho6m hm6m
            clear ht6 hbw6 hd6m ho6m ho6m' hm6m hx26
            obtain ⟨t, htt⟩ : ∃ t, s + min (xk : Int).toNat (q.length - s) = t := ⟨_, rfl⟩
            rw [htt] at ht6b
            obtain ⟨q5, hq5⟩ : ∃ q5, q.take t = q5 := ⟨_, rfl⟩
            rw [hq5] at ht6b
            have hq5l : q5.length ≤ 68 * k := by rw [← hq5, List.length_take]; omega
            obtain ⟨F, hF⟩ : ∃ F, scanL q5 = F := ⟨_, rfl⟩
            obtain ⟨zF, hzF⟩ : ∃ zF, sizeL F = zF := ⟨_, rfl⟩
            have hzq : zF ≤ q5.length := by have := scanL_size q5; rw [hF, hzF] at this; exact this
            have HF := Lib.hid hF
            have HZF := Lib.hid hzF
            have HFK := Lib.hid (show F.length ≤ 1000000 by have := length_le_size6 F; omega)
            clear htt hq5 hF hzF
            go_wp2_with fail
            refine (walOpen_true ht6b.dk (by omega) (Tab.below ht hbw6b)).mono ?_
            rw [HF.out, HZF.out]
            rintro e w6c ⟨gl8, u6, v6c, rfl, ho6c, hlg6c, hgl8, hd6c, hon6c, hv6c⟩
            have hbw6c := ht6b.belowd hbw6b hz1 hon6c
            have ht6c := ht6b.d hd6c hon6c (Moved.of_eq hv6c)
            have hng8 : ¬ DkS g v6c gl8 := fun hk => by
              have h1 : DkS g v6 gl8 := by
                rcases hk with h | h
                · exact .inl h
                · exact .inr (by rw [← hv6c]; exact h)
              have := ht6b.dk.lt gl8 h1
              omega
            have hnm6c : ¬ DkS gm v6m gl8 := fun hk => by have := ht6b.mm.lt gl8 hk; omega
            have hm6lt := ht6b.mm.lt
            have hgl8B : w.heap.size ≤ gl8 := Nat.le_trans hbw6b.size hgl8
            have hz6c := hon6c.size
            clear hd6c hon6c hv6c hbw6b
            obtain ⟨A6, c6, rfl, hs6, _, _⟩ := segk6 ho6c F.length rfl
            go_wp2_with fail
            refine (ropen_true ht6c.mm (by omega)).mono ?_
            rw [HF.out, HZF.out]
            rintro e w7 ⟨u7, v7, rfl, ho7, hd7, hon7, hm7⟩
            have hbw8' := ht6c.belowm hbw6c hz1 hon7
            have ht7' := ht6c.m hd7 hon7 hm7
            have hlg8' := hlg6c.only hon7 hnm6c
            have hnm8 := dks_moved6 hnm6c hm7 hlg6c.lt
            have ho6d := ho6c.only hon7 (fun k hk _ hs => by have := hm6lt k hs; omega)
            obtain ⟨A6', c6', e6, hs6d, _, _⟩ := segk6 ho6d F.length rfl
            injection e6 with e61 _ e62
            subst e61 e62
            obtain ⟨A7, c7, rfl, hs7, _, _⟩ := segk6 ho7 F.length rfl
            clear ht6b ht6c hlg6c hnm6c hm6lt hbw6c hs6 ho6c ho6d ho7 hd7 hon7 hm7 hgl8 hz6c
            obtain ⟨kF, hkF⟩ : ∃ kF, F.length = kF := ⟨_, rfl⟩
            have hkFb : kF ≤ 1000000 := by rw [← hkF]; exact HFK.out
            rw [hkF] at hs6d hs7 ⊢
            go_wp2_with fail
            refine (same_any A6 A7 kF kF c6 c7 F F _ hs6d hs7 hkFb).mono ?_
            rintro e w7b ⟨rfl, u9, rfl⟩
            rw [show (F == F) = true by simp]
            have hD := Below.drewN' (Below.refl w7.heap.size w7) u9
            have ht7 := ht7'.drewN u9
            have hlg8 := hlg8'.below hD
            have hbw8 := Below.drewN' hbw8' u9
            clear ht7' hlg8' hbw8' hs6d hs7 hD
            generalize w7.drewN u9 = w7 at *
            have T8 : ∃ (v8 vm8 : Value) (q8 : List UInt8) (s8 : Nat) (f8 : Bool) (c8 cm8 : Int), Mid w7 w1.heap.size g gm v8 vm8 q8 s8 f8 c8 q8 s8 cm8 ∧ Rl f8 c8 cm8 ∧ q8.length ≤ 68 * k + 68 ∧ ¬ DkS g v8 gl8 ∧ ¬ DkS gm vm8 gl8 := ⟨_, _, _, _, _, _, _, ht7, Rl.crash cd, by split <;> (first | (rw [List.length_take]; omega) | omega), hng8, hnm8⟩
            obtain ⟨v8, vm8, q8, s8, f8, c8, cm8, ht8, hrl8, hl8, hng9, hnm9⟩ := T8
            have hz9 : zF ≤ 68 * k + 68 := by omega
            clear ht7 hrl2 hrl hbk hbk2 hnb hnm hng8 hnm8 hng hnmg
            go_wp2
            go_meet
            exact ⟨gl8, zF, v8, vm8, q8, s8, f8, c8, cm8, rfl, rfl, rfl, ht8, hrl8, hlg8, hng9, hnm9, hgl8B, hl8, hz9, hbw8⟩
        case rest =>
          obtain ⟨gl8, z8, v8, vm8, q8, s8, f8, c8, cm8, rfl, rfl, rfl, ht8, hrl8, hlg8, hng9, hnm9, hglB8, hl8, hz9, hbw8⟩ := hcut
          clear ht4 hsB4 hbw4 hlg4 hx0 hx1' hx2' hrl2 hrl hbk hbk2 hnb hnm hng hnmg hgMm HZ8 HFR HFL hw8a hw8b hm1 hm2 hy1 hy2 hc
          obtain ⟨w7, hw7⟩ : ∃ w7, wc = w7 := ⟨_, rfl⟩
          rw [hw7] at ht8 hlg8 hbw8 ⊢
          clear hw7
          obtain ⟨A8, cc8, hv8, hsg8, hlc8, hcm8⟩ := ht8.mm.own.forms
          subst hv8
          have zz0 := ht8.mm.mc.h0
          have zz1 := ht8.mm.mc.h1
          obtain ⟨n8, hn8⟩ : ∃ n8, q8.length = n8 := ⟨_, rfl⟩
          have HN8 := Lib.hid hn8
          have h9 := ht8.dk.hs
          rw [hn8] at zz0 hsg8 hlc8 hl8 h9
          have hn9 : n8 ≤ 1000000 := by omega
          clear hn8
          go_wp2
          refine wp_region_noPanic (wp_region_tills (fun W' => W'.cell? ⟨gm, 0, none⟩ = some (.slice A8 n8 cc8) ∧ W'.cell? ⟨gm, 1, none⟩ = some (.int .i64 (s8 : Int))) (fun j => decide (26 ≤ j)) (by kernel_rfl) ?_)
          have hD := Below.drewN' (Below.refl w7.heap.size w7) 1
          have ht9 := ht8.drewN 1
          have hsg9 := hsg8.drewN 1
          have hbw9 := Below.drewN' hbw8 1
          have hlg9 := hlg8.below hD
          have y0 : (w7.drewN 1).cell? ⟨gm, 0, none⟩ = some (.slice A8 n8 cc8) := zz0
          have y1 : (w7.drewN 1).cell? ⟨gm, 1, none⟩ = some (.int .i64 (s8 : Int)) := zz1
          change wpAnyS _ _ _ _ _ _ 27 _ _ (w7.drewN 1)
          clear ht8 hsg8 hbw8 zz0 zz1 hlg8 hD
          generalize w7.drewN 1 = w9 at *
          refine wpAnyS_step 0 rfl (by decide +kernel) ?_
          go_wp2_with fail
          refine ⟨.inr ⟨y0, y1⟩, ?_⟩
          refine wpAnyS_step 1 rfl (by decide +kernel) ?_
          go_wp2_with fail
          refine ⟨.inr ⟨y0, y1⟩, ?_⟩
          refine wpAnyS_step 2 rfl (by decide +kernel) ?_
          go_wp2_with fail
          refine ⟨.inr ⟨y0, y1⟩, ?_⟩
          refine wpAnyS_take (i := 5) (v := .pointer (some ⟨gm, 0, none⟩)) rfl (by kernel_rfl) (fun _ _ _ h => h) ⟨y0, y1⟩ (Or.inl ⟨by kernel_rfl, fun W' hW => by obtain ⟨q0, q1⟩ := hW; go_simp⟩) ?_
          refine wpAnyS_take (i := 6) (v := .pointer (some ⟨gm, 0, none⟩)) rfl (by kernel_rfl) (fun _ _ _ h => h) ⟨y0, y1⟩ (Or.inl ⟨by kernel_rfl, fun W' hW => by obtain ⟨q0, q1⟩ := hW; go_simp⟩) ?_
          refine wpAnyS_take (i := 7) (v := .pointer (some ⟨gm, 0, none⟩)) rfl (by kernel_rfl) (fun _ _ _ h => h) ⟨y0, y1⟩ (Or.inl ⟨by kernel_rfl, fun W' hW => by obtain ⟨q0, q1⟩ := hW; go_simp⟩) ?_
          refine wpAnyS_take (i := 8) (v := .slice A8 n8 cc8) rfl (by kernel_rfl) (fun _ _ _ h => h) ⟨y0, y1⟩ (Or.inl ⟨by kernel_rfl, fun W' hW => by obtain ⟨q0, q1⟩ := hW; go_simp⟩) ?_
          refine wpAnyS_stepg 3 rfl (by decide +kernel) (by kernel_rfl) ?_
          go_wp2_with fail
          refine ⟨.inr ⟨y0, y1⟩, ?_⟩
          refine wpAnyS_stepg 4 rfl (by decide +kernel) (by kernel_rfl) ?_
          go_wp2_with fail
          refine (dread_any ht9.dk (by rw [HN8.out]; exact hn9)).mono ?_
          rintro e w11 ⟨v11, rfl, ho11, hb11⟩
          obtain ⟨A11, c11, rfl, hs11, _, _⟩ := formsk6 ho11 n8 HN8.out
          have hta := ht9.below hb11
          have hsga := hsg9.below hb11
          have hlga := hlg9.below hb11
          have hbwa := Below.next' hbw9 hb11 hbw9.size
          have y0a := cell_below hb11 y0
          have y1a := cell_below hb11 y1
          clear ht9 hsg9 hbw9 y0 y1 hb11 ho11 hlg9
          go_wp2_with fail
          refine ⟨.inr ⟨y0a, y1a⟩, ?_⟩
          refine wpAnyS_stepg 9 rfl (by decide +kernel) (by kernel_rfl) ?_
          go_wp2_with fail
          refine (bytes_any A11 A8 n8 n8 c11 cc8 q8 q8 _ hs11 hsga (by simp only [maxLen]; omega)).mono ?_
          rintro e w12 ⟨rfl, u, rfl⟩
          rw [show (q8 == q8) = true by simp]
          have hD := Below.drewN' (Below.refl w11.heap.size w11) u
          have htb := hta.drewN u
          have hlgb := hlga.below hD
          have hbwb := Below.drewN' hbwa u
          have y0b : (w11.drewN u).cell? ⟨gm, 0, none⟩ = some (.slice A8 n8 cc8) := y0a
          have y1b : (w11.drewN u).cell? ⟨gm, 1, none⟩ = some (.int .i64 (s8 : Int)) := y1a
          clear hta hsga hbwa hs11 y0a y1a hlga hD
          generalize w11.drewN u = w12 at *
          go_wp2_with fail
          refine ⟨.inr ⟨y0b, y1b⟩, ?_⟩
          refine wpAnyS_stepg 10 rfl (by decide +kernel) (by kernel_rfl) ?_
          go_wp2_with fail
          refine ⟨.inr ⟨y0b, y1b⟩, ?_⟩
          refine wpAnyS_step 11 rfl (by decide +kernel) ?_
          go_wp2_with fail
          refine ⟨.inr ⟨y0b, y1b⟩, ?_⟩
          refine wpAnyS_step 12 rfl (by decide +kernel) ?_
          go_wp2_with fail
          refine ⟨.inr ⟨y0b, y1b⟩, ?_⟩
          refine wpAnyS_take (i := 15) (v := .pointer (some ⟨gm, 0, none⟩)) rfl (by kernel_rfl) (fun _ _ _ h => h) ⟨y0b, y1b⟩ (Or.inl ⟨by kernel_rfl, fun W' hW => by obtain ⟨q0, q1⟩ := hW; go_simp⟩) ?_
          refine wpAnyS_take (i := 16) (v := .pointer (some ⟨gm, 0, none⟩)) rfl (by kernel_rfl) (fun _ _ _ h => h) ⟨y0b, y1b⟩ (Or.inl ⟨by kernel_rfl, fun W' hW => by obtain ⟨q0, q1⟩ := hW; go_simp⟩) ?_
          refine wpAnyS_take (i := 17) (v := .pointer (some ⟨gm, 1, none⟩)) rfl (by kernel_rfl) (fun _ _ _ h => h) ⟨y0b, y1b⟩ (Or.inl ⟨by kernel_rfl, fun W' hW => by obtain ⟨q0, q1⟩ := hW; go_simp⟩) ?_
          refine wpAnyS_take (i := 18) (v := .int .i64 (s8 : Int)) rfl (by kernel_rfl) (fun _ _ _ h => h) ⟨y0b, y1b⟩ (Or.inl ⟨by kernel_rfl, fun W' hW => by obtain ⟨q0, q1⟩ := hW; go_simp⟩) ?_
          refine wpAnyS_stepg 13 rfl (by decide +kernel) (by kernel_rfl) ?_
          go_wp2_with fail
          refine ⟨.inr ⟨y0b, y1b⟩, ?_⟩
          refine wpAnyS_stepg 14 rfl (by decide +kernel) (by kernel_rfl) ?_
          go_wp2_with fail
          refine (safe_any htb.dk.dc).mono ?_
          rintro e w13 ⟨rfl, rfl⟩
          go_wp2_with fail
          refine ⟨.inr ⟨y0b, y1b⟩, ?_⟩
          refine wpAnyS_stepg 19 rfl (by decide +kernel) (by kernel_rfl) ?_
          go_wp2_with fail
          refine ⟨.inr ⟨y0b, y1b⟩, ?_⟩
          refine wpAnyS_step 20 rfl (by decide +kernel) ?_
          go_wp2_with fail
          refine ⟨.inr ⟨y0b, y1b⟩, ?_⟩
          refine wpAnyS_step 21 rfl (by decide +kernel) ?_
          go_wp2_with fail
          refine ⟨.inr ⟨y0b, y1b⟩, ?_⟩
          refine wpAnyS_take (i := 24) (v := .int .i64 (z8 : Int)) rfl (by kernel_rfl) (fun _ _ _ h => h) ⟨y0b, y1b⟩ (Or.inl ⟨by kernel_rfl, fun W' hW => by obtain ⟨q0, q1⟩ := hW; go_simp⟩) ?_
          refine wpAnyS_stepg 22 rfl (by decide +kernel) (by kernel_rfl) ?_
          go_wp2_with fail
          refine ⟨.inr ⟨y0b, y1b⟩, ?_⟩
          refine wpAnyS_stepg 23 rfl (by decide +kernel) (by kernel_rfl) ?_
          go_wp2_with fail
          refine (walSize_any hlgb).mono ?_
          rintro e w14 ⟨rfl, rfl⟩
          go_wp2_with fail
          refine ⟨.inr ⟨y0b, y1b⟩, ?_⟩
          refine wpAnyS_stepg 25 rfl (by decide +kernel) (by kernel_rfl) ?_
          go_wp2_with fail
          refine ⟨.inr ⟨y0b, y1b⟩, ?_⟩
          refine wpAnyS_step 26 rfl (by decide +kernel) ?_
          go_wp2_with fail
          refine ⟨.inl rfl, ?_⟩
          refine wpAnyS_done (by decide +kernel) (NoPanic.normal ?_)
          go_wp2
          go_roundw
          case rel => first | exact ⟨k + 1, gl8, z8, _, _, q8, s8, f8, c8, cm8, by omega, rfl, rfl, by go_num, htb, hrl8, hlgb, hng9, hnm9, hglB8, by rw [HN8.out]; omega, by omega, hbwb⟩ | ((repeat apply Exists.intro); exact ⟨⟨k + 1, gl8, z8, _, _, q8, s8, f8, c8, cm8, by omega, rfl, rfl, by go_num, htb, hrl8, hlgb, hng9, hnm9, hglB8, by rw [HN8.out]; omega, by omega, hbwb⟩, rfl⟩)
          case measure => simp [intOf]; omega
      · have dmm : decide ((60 : Int) < (m : Int)) = true := decide_eq_true (by omega)
        go_wp2
        go_ret
        exact ⟨rfl, hbw.alloc hbw.size _⟩
    · obtain rfl : n = k := by omega
      go_wp2
      go_ret
      exact ⟨rfl, hbw⟩

set_option maxRecDepth 8000 in
set_option maxHeartbeats 4000000 in
theorem walPlays_long (A : Option Addr) (n c : Nat) (w : World) (h : 40 < n) (ht : Tab w) :
    Calls Tryd.prog 6 #[.slice A n c] w fun e w' => e = .returned (.bool true) ∧ Below w.heap.size w w' := by
  have d0 : decide ((40 : Int) < (n : Int)) = true := decide_eq_true (by omega)
  go_enter Tryd.func6, Tryd.ntmps6
  go_wp2_with fail
  refine (both_any _ ht).mono ?_
  rintro e w1 ⟨rfl, hb1⟩
  go_wp2_with fail
  refine (both_any _ (Tab.below ht hb1)).mono ?_
  rintro e w2 ⟨rfl, hb2⟩
  go_wp2
  go_ret
  exact ⟨rfl, Below.next' hb1 hb2 hb1.size⟩

theorem walPlays_walk (A : Option Addr) (n c : Nat) (L : List WAct) (w : World) (ha : SegWA w A n L) (_ : n ≤ c) (_ : c ≤ maxLen) (ht : Tab w) :
    Calls Tryd.prog 6 #[.slice A n c] w fun e w' => e = .returned (.bool true) ∧ Below w.heap.size w w' := by
  by_cases h : n ≤ 40
  · exact walPlays_core A n c L w ha h ht
  · exact walPlays_long A n c w (by omega) ht

end Go.Proofs.YtkmcnkonkalfkaaDoor
