/-
  The walks of both Keys.
-/
import Derived.Test.YtpbjianhkjjgkaaDoorYBK1
namespace Go.Proofs.YtpbjianhkjjgkaaDoor
open Go.RowKit Go.Sort

theorem keyStr (l : List Nat) : (l.map keyOf).map Value.string = (l.map keyB).map encStr := by
  rw [List.map_map, List.map_map]
  rfl

theorem ownS_at' {w : World} {base : Nat} {e : TypeId} {A : Option Addr} {n c : Nat} {l : List ByteArray} (h : OwnS w base e (.slice A n c) l) (hl : l.length = n) : SegS w A n l := by
  obtain ⟨A', c', hv, hs, h1, h2⟩ := OwnG.forms h
  injection hv with e1 e2 e3
  subst e1
  rw [hl] at hs
  exact hs

set_option maxRecDepth 8000 in
set_option maxHeartbeats 16000000 in
theorem tkeys_any (m : List It) (v : Value) (w : World) (hm : Its m) (hv : TreeAt w (tree 256 m 0) v) :
    Calls Tryd.prog 27 #[v] w fun e w' => ∃ A c, e = .returned (.slice A m.length c) ∧ SegS w' A m.length (m.map fun x => keyOf x.1) ∧ Below w.heap.size w w' := by
  have hcnt := tree_cnt 256 m 0 rfl (Good.root hm.1 hm.2)
  have hml := its_len hm
  have hkl := keysT_len (tree 256 m 0)
  rw [hcnt] at hkl
  have hso := keys_sorted hm
  by_cases h0 : m = []
  · subst h0
    rw [tree_nil] at hv
    have e : v = .pointer none := hv
    subst e
    refine (keys_nil w).mono ?_
    rintro e w' ⟨⟨A, c, rfl⟩, hb⟩
    exact ⟨A, c, rfl, SegG.nil _ _, hb⟩
  · have hpos : 0 < m.length := List.length_pos_iff.2 h0
    have hlen := tlen_any _ _ _ hv
    rw [hcnt] at hlen
    have hga := fun s W (h1 : Below w.heap.size w W) (h2 : OwnS W w.heap.size 9 s []) => gather_any w (tree 256 m 0) v s [] w.heap.size W hv h1 h2 (Nat.le_refl _) h1.size (by rw [hcnt]; simp; omega)
    obtain ⟨q, rfl⟩ := hv.ptr
    obtain ⟨ks, hks⟩ : ∃ ks, (tree 256 m 0).keysT = ks := ⟨_, rfl⟩
    rw [hks] at hkl hso hga
    obtain ⟨n, hn⟩ : ∃ n, m.length = n := ⟨_, rfl⟩
    have hmap : (m.map fun x => keyOf x.1).length = n := by rw [List.length_map, hn]
    have hmk : (m.map fun x => keyOf x.1) = (m.map (·.1)).map keyOf := by rw [List.map_map]; rfl
    have hmb : (m.map fun x => keyB x.1) = (m.map (·.1)).map keyB := by rw [List.map_map]; rfl
    rw [hmk] at hmap ⊢
    rw [hmb] at hso
    obtain ⟨us, hus⟩ : ∃ us, m.map (·.1) = us := ⟨_, rfl⟩
    rw [hus] at hmap hso ⊢
    rw [hn] at hlen hkl hml hpos ⊢
    have HLEN := Lib.hid hlen
    have HGA := Lib.hid hga
    have HSO := Lib.hid hso
    have HKL := Lib.hid hkl
    have HMAP := Lib.hid hmap
    obtain ⟨i, hi, hz0, hz1, hz2⟩ := info_parts strInfo
    clear hlen hga hso hv hks hn hmk hmb hus hcnt hm h0 hkl hmap
    go_enter Tryd.func27, Tryd.ntmps27
    go_wp2_with fail
    refine HLEN.out.mono ?_
    rintro e w1 ⟨rfl, rfl⟩
    go_wp2_with (at_make
                 refine wpList_make_own _ rfl (.const (.int .i64 0)) (.tmp 6) _ rfl w1.heap.size 9 i _ 1 Tryd.underlying38 hi hz0 hz1 .i64 .i64 (n : Int) n rfl rfl (by omega) (by rw [hz2]; omega) (by simp only [maxLen]; omega) (Nat.le_refl _) ?_
                 intro w2 ho2 hg2
                 have hb2 : Below w1.heap.size w1 w2 := (Below.refl _ _).grown hg2 (Nat.le_refl _) (by intro k hk; cases hk)
                 clear hg2 hi hz0 hz1 hz2 i)
    refine (HGA.out _ _ hb2 ho2).mono ?_
    rintro e w3 ⟨s3, rfl, ho3, hb3⟩
    rw [List.nil_append] at ho3
    have hb3 := hb2.trans hb3
    clear hb2 ho2 HGA
    have hl3 : (ks.map keyOf).length = n := by rw [List.length_map]; exact HKL.out
    have ho3' : w3.ownsRow w1.heap.size 9 1 s3 (ks.map keyOf).length (cellsG strLay (ks.map keyOf)) := ho3
    rw [hl3, strCells, keyStr] at ho3'
    rcases ho3'.2 with ⟨_, hz⟩ | ⟨g, cap, cur, rfl, hbg, hh, h1, h2, h3, h4⟩
    · omega
    · have hss : (ks.map keyB).length = n := by rw [List.length_map]; exact HKL.out
      have hgl : g < w3.heap.size := (Array.getElem?_eq_some_iff.1 hh).1
      have hH : Holds encStr w3 g 0 (ks.map keyB).toArray := holds_of_block hh (by rw [hss]; simpa using h4)
      have hc := slices_Sort_string g 0 cap (ks.map keyB) w3 hH hgl (by omega)
      rw [hss, HSO.out] at hc
      have HC := Lib.hid hc
      have hts : (us.map keyB).length = (ks.map keyB).length := by rw [hss, List.length_map]; have := HMAP.out; rw [List.length_map] at this; exact this
      have HOWN := Lib.hid (fun (nn : Nat) (os : Array Obj) => ownsRow_sorted (w := w3) (n := nn) (os := os) hts hbg hh (by rw [hss]; exact h1) h2 h3)
      clear hc hH hss h4 ho3 ho3' hts hh
      go_wp2_with fail
      refine HC.out.mono ?_
      rintro e w4 ⟨rfl, nn, os, rfl⟩
      have hb4 := hb3.grown (grownBy_sorted (w := w3) (g := g) (n := nn) (os := os) (us.map keyB).toArray) hb3.size (fun k hk => by cases hk; exact hbg)
      have ho4 := HOWN.out nn os
      generalize grow (putRow encStr (Sort.ahead w3 nn) g 0 (us.map keyB).toArray) os = w5 at *
      have hlk : (ks.map keyB).length = n := by rw [List.length_map]; exact HKL.out
      rw [hlk] at ho4
      have ho6 : w5.ownsRow w1.heap.size 9 1 (.slice (some ⟨g, 0, none⟩) n cap) (us.map keyOf).length (cellsG strLay (us.map keyOf)) := by
        rw [HMAP.out, strCells, keyStr]
        exact ho4
      have ho5 : OwnS w5 w1.heap.size 9 (.slice (some ⟨g, 0, none⟩) n cap) (us.map keyOf) := ho6
      have hsg := (ownS_at' ho5 HMAP.out)
      clear ho4 ho5 ho6 HOWN HC hlk hl3 h1 h2 h3
      go_wp2
      go_ret
      exact ⟨_, _, rfl, hsg, hb4⟩

set_option maxHeartbeats 8000000 in
theorem rkeys_any (A : Option Addr) (n c : Nat) (S : List ItS) (w : World) (ha : SegG itLay w A n S) (hn : n ≤ 100000) :
    Calls Tryd.prog 28 #[.slice A n c] w fun e w' => ∃ B d, e = .returned (.slice B n d) ∧ SegS w' B n (S.map (·.s)) ∧ Below w.heap.size w w' := by
  have hsl := ha.1
  have HSL := Lib.hid hsl
  clear hsl
  go_enter Tryd.func28, Tryd.ntmps28
  go_wp2_with fail
  go_loopw [3, 4] (fun v i w' => ∃ k : Nat, k ≤ n ∧ i = .int .i64 k ∧ OwnS w' w.heap.size 9 v ((S.take k).map (·.s)) ∧ Below w.heap.size w w') (fun _ i _ => n - (intOf i).toNat)
  case atStart => exact ⟨0, by omega, rfl, OwnG.nil _ _ _, Below.refl _ _⟩
  case round =>
    obtain ⟨k, hk, rfl, hv, hb⟩ := hrel
    have hkl : ((S.take k).map (·.s)).length = k := by rw [List.length_map, List.length_take, HSL.out]; omega
    obtain ⟨B, d, hve, hsv, _, _⟩ := hv.forms
    rw [hkl] at hve hsv
    subst hve
    by_cases hlt : k < n
    · have hkS : k < S.length := by rw [HSL.out]; exact hlt
      obtain ⟨g, o, rfl, hc⟩ := (ha.below hb).at_ hlt
      have HST := Lib.hid (show (S.take (k + 1)).map (·.s) = (S.take k).map (·.s) ++ [S[k].s] by rw [List.take_succ_eq_append_getElem hkS, List.map_append]; rfl)
      obtain ⟨e, he⟩ : ∃ e, S[k]'hkS = e := ⟨_, rfl⟩
      have x0 := hc 0 (.string e.s) (by rw [he]; rfl)
      rw [he] at HST
      rw [show itLay.z = 2 from rfl] at x0
      rw [Nat.add_zero] at x0
      obtain ⟨es, eA, en, ec⟩ := e
      dsimp only at x0 HST
      obtain ⟨D, hD⟩ : ∃ D, (S.take k).map (·.s) = D := ⟨_, rfl⟩
      rw [hD] at hv HST hkl
      have hwz := hb.size
      have HV := Lib.hid (hv.alloc (.cells #[.string es] 9))
      have HB := Lib.hid hb
      clear hc hv hb hsv he hD ha
      go_wp2_with (at_builtin
                   refine wpList_append_G _ rfl (.tmp 11) (.tmp 17) _ _ _ _ strT rfl w.heap.size (.slice B k d) D rfl HV.out _ 1 1 [es] rfl (SegG.newAt _ _ _ _ _ _ rfl rfl rfl) (by rw [hkl]; omega) (by simp; omega) ?_
                   intro v4 w4 hv4 hg4 hat4)
      obtain ⟨A4, c4, hve, _, _, _⟩ := hv4.forms
      have hl4 : (D ++ [es]).length = k + 1 := by rw [List.length_append, hkl]; rfl
      rw [hl4] at hve
      subst hve
      go_roundw
      case rel => exact ⟨k + 1, by omega, by go_num, by rw [HST.out]; exact hv4, below_grownG (HB.out.alloc hwz _) HV.out hg4 (Nat.le_refl _) (by simp; omega)⟩
      case measure => simp [intOf]; omega
    · obtain rfl : n = k := by omega
      rw [List.take_of_length_le (by rw [HSL.out]; exact Nat.le_refl _)] at hsv
      clear ha hv
      go_wp2
      go_ret
      exact ⟨_, _, rfl, hsv, hb⟩
theorem ItsAt.keysOf {w : World} : ∀ {S : List ItS} {m : List It}, ItsAt w S m → S.map (·.s) = m.map fun x => keyOf x.1
  | [], [], _ => rfl
  | s :: S, x :: m, h => by rw [List.map_cons, List.map_cons, h.1.1, ItsAt.keysOf h.2]
  | [], _ :: _, h => h.elim
  | _ :: _, [], h => h.elim

end Go.Proofs.YtpbjianhkjjgkaaDoor
