/-
  The reader's write, told by the pure reader.
-/
import Derived.Test.YtipfhcljdginoaaDoorRA2
namespace Go.Proofs.YtipfhcljdginoaaDoor
open Go.RowKit

/-- Three cells of a result's box. -/
theorem threeset {w : World} {g : Nat} {a b c : Value} (h0 : w.cell? ⟨g, 0, none⟩ = some a) (h1 : w.cell? ⟨g, 1, none⟩ = some b) (h2 : w.cell? ⟨g, 2, none⟩ = some c) (u v x : Value) :
    (((w.setCell ⟨g, 0, none⟩ u).setCell ⟨g, 1, none⟩ v).setCell ⟨g, 2, none⟩ x).cell? ⟨g, 0, none⟩ = some u ∧ (((w.setCell ⟨g, 0, none⟩ u).setCell ⟨g, 1, none⟩ v).setCell ⟨g, 2, none⟩ x).cell? ⟨g, 1, none⟩ = some v ∧ (((w.setCell ⟨g, 0, none⟩ u).setCell ⟨g, 1, none⟩ v).setCell ⟨g, 2, none⟩ x).cell? ⟨g, 2, none⟩ = some x ∧
      Only w (((w.setCell ⟨g, 0, none⟩ u).setCell ⟨g, 1, none⟩ v).setCell ⟨g, 2, none⟩ x) (fun k => k = g) := by
  have n01 : (⟨g, 0, none⟩ : Addr) ≠ ⟨g, 1, none⟩ := by simp
  have n02 : (⟨g, 0, none⟩ : Addr) ≠ ⟨g, 2, none⟩ := by simp
  have n10 : (⟨g, 1, none⟩ : Addr) ≠ ⟨g, 0, none⟩ := by simp
  have n12 : (⟨g, 1, none⟩ : Addr) ≠ ⟨g, 2, none⟩ := by simp
  have n20 : (⟨g, 2, none⟩ : Addr) ≠ ⟨g, 0, none⟩ := by simp
  have n21 : (⟨g, 2, none⟩ : Addr) ≠ ⟨g, 1, none⟩ := by simp
  refine ⟨?_, ?_, ?_, (((Only.refl w (fun k => k = g)).setCell ⟨g, 0, none⟩ u fun _ => rfl).setCell ⟨g, 1, none⟩ v fun _ => rfl).setCell ⟨g, 2, none⟩ x fun _ => rfl⟩
  · rw [World.cell?_setCell_other (h := n20), World.cell?_setCell_other (h := n10)]
    exact World.cell?_setCell_same _ _ _ h0
  · rw [World.cell?_setCell_other (h := n21)]
    have e1 : (w.setCell ⟨g, 0, none⟩ u).cell? ⟨g, 1, none⟩ = some b := (World.cell?_setCell_other (h := n01) ..).trans h1
    exact World.cell?_setCell_same _ _ _ e1
  · have e2 : ((w.setCell ⟨g, 0, none⟩ u).setCell ⟨g, 1, none⟩ v).cell? ⟨g, 2, none⟩ = some c := by
      rw [World.cell?_setCell_other (h := n12), World.cell?_setCell_other (h := n02)]
      exact h2
    exact World.cell?_setCell_same _ _ _ e2
/-- What is written into a box of the call's own turns nothing that lay there before. -/
theorem Only.boxed {w w1 w2 : World} {g b : Nat} (h : Only w1 w2 (fun k => k = b)) (h0 : Only w w1 (fun k => k = g)) (hb : w.heap.size ≤ b) : Only w w2 (fun k => k = g) :=
  h0.trans h fun i hi e => by have e : i = b := e; omega

theorem Re.onlyb {w w' : World} {g b : Nat} {A : Option Addr} {n c k : Nat} {l : List UInt8} (h : Re w g A n c l k) (ho : Only w w' (fun k => k = b)) (hg : ¬ g = b) (hA : 0 < n → ∀ a, A = some a → a.block ≠ b) : Re w' g A n c l k :=
  ⟨⟨ho.cell h.rd.p hg, ho.cell h.rd.at_ hg, (ho.froz h.rd.p hg ⟨g, 1, none⟩ rfl).trans h.rd.fr⟩, h.seg.only ho (fun hn a ha e => hA hn a ha e), h.ap, h.hn, h.nc, h.cm, h.hk⟩
/-- What 'write' answers. -/
def WrR (w : World) (g : Nat) (A : Option Addr) (n c : Nat) (l : List UInt8) (e : Ending) (w' : World) : Rr Wr6 → Prop
  | .bad p x => e = .returned (.tuple #[.agg #[.string ⟨#[]⟩, .slice none 0 0, .bool false], metV (p : Nat) (x : Nat)]) ∧ Only w w' (fun b => b = g)
  | .ok x k => ∃ A' m c', e = .returned (.tuple #[.agg #[.string x.key, .slice A' m c', .bool x.gone], .nilIface]) ∧ Seg w' A' m x.row ∧ m ≤ c' ∧ c' ≤ maxLen ∧ (0 < m → ∀ a, A' = some a → w.heap.size ≤ a.block) ∧ Re w' g A n c l k ∧ Only w w' (fun b => b = g)

set_option maxRecDepth 8000 in
set_option maxHeartbeats 8000000 in
theorem wrR_any {w : World} {g : Nat} {A : Option Addr} {n c k : Nat} {l : List UInt8} (h : Re w g A n c l k) (last : ByteArray) :
    Calls Tryd.prog 39 #[.pointer (some ⟨g, 0, none⟩), .string last] w fun e w' => WrR w g A n c l e w' (rwr l k last) := by
  obtain ⟨wa, hwa⟩ : ∃ wa, wa = w.alloc (.cells #[.string ⟨#[]⟩, .slice none 0 0, .bool false] 45) := ⟨_, rfl⟩
  obtain ⟨b0, hb0⟩ : ∃ b0, w.heap.size = b0 := ⟨_, rfl⟩
  have hba : Below w.heap.size w wa := by rw [hwa]; exact (Below.refl _ _).alloc (Nat.le_refl _) _
  have x00 : wa.cell? ⟨b0, 0, none⟩ = some (.string ⟨#[]⟩) := by rw [hwa, ← hb0]; simp
  have x10 : wa.cell? ⟨b0, 1, none⟩ = some (.slice none 0 0) := by rw [hwa, ← hb0]; simp
  have x20 : wa.cell? ⟨b0, 2, none⟩ = some (.bool false) := by rw [hwa, ← hb0]; simp
  have xf0 : ∀ j, wa.frozen? ⟨b0, j, none⟩ = false := fun j => by rw [hwa, ← hb0]; simp
  have hgl := h.lt
  have hb0g : ¬ b0 = g := by omega
  have hb0w : w.heap.size ≤ b0 := by omega
  have hb0in : 0 < n → ∀ a, A = some a → a.block ≠ b0 := fun hn a ha e => by have := h.seg.lt hn a ha; omega
  have hot0 : Only w wa (fun b => b = g) := Only.of_below hba
  have hra := h.below hba
  have hlen := h.len
  have hkn := h.hk
  have HWA := Lib.hid hwa
  have HB0 := Lib.hid hb0
  clear hwa hb0 hba h
  have hkey := keyR_any hra last
  have hok1 := fun s k' (q : rkey l k last = .ok s k') => (rkey_ok q (by omega)).1
  unfold rwr
  generalize rkey l k last = R at *
  have hw0 : w.heap.size ≤ wa.heap.size := hot0.size
  rcases R with ⟨p, x⟩ | ⟨s, k1⟩
  · simp only [KeyR, metV, WrR] at hkey ⊢
    clear hok1
    go_enter Tryd.func39, Tryd.ntmps39
    go_upto_region 1 with fail
    rw [← HWA.out, HB0.out]
    clear HWA HB0 hra
    go_wp2_with fail
    refine (hkey).mono ?_
    rintro e w1 ⟨rfl, ho1⟩
    have x01 := ho1.cell x00 hb0g
    have x11 := ho1.cell x10 hb0g
    have x21 := ho1.cell x20 hb0g
    have xf1 := fun j => (ho1.froz x00 hb0g ⟨b0, j, none⟩ rfl).trans (xf0 j)
    have hot1 := hot0.trans ho1 fun _ _ h => h
    clear x00 x10 x20 xf0 ho1 hot0 hkey
    have f0 := xf1 0
    have f1 := xf1 1
    have f2 := xf1 2
    obtain ⟨y0, y1, y2, hset⟩ := threeset x01 x11 x21 (.string ⟨#[]⟩) (.slice none 0 0) (.bool false)
    have hob := hset.boxed hot1 hb0w
    go_wp2
    refine bodyPost_ret (v := .tuple #[.agg #[.string ⟨#[]⟩, .slice none 0 0, .bool false], .iface 73 (.agg #[.int .i64 (p : Nat), .iface 30 (.int .i64 (x : Nat))])]) (by simp [results, Tryd.results39, go_sem, y0, y1, y2]) rfl ⟨rfl, hob⟩
  · have hk1 := hok1 s k1 rfl
    clear hok1
    dsimp only
    simp only [KeyR] at hkey
    have hnum := fun w1 (h1 : Re w1 g A n c l k1) => numR_any h1 1 0 1 (by omega)
    have hok2 := fun r k' (q : rnum l k1 1 0 1 = .ok r k') => rnum_ok q hk1
    generalize rnum l k1 1 0 1 = R at *
    rcases R with ⟨p, x⟩ | ⟨gn, k2⟩
    · simp only [NumR, metV, WrR] at hnum ⊢
      have HNUM := Lib.hid hnum
      clear hok2 hnum
      go_enter Tryd.func39, Tryd.ntmps39
      go_upto_region 1 with fail
      rw [← HWA.out, HB0.out]
      clear HWA HB0 hra
      go_wp2_with fail
      refine (hkey).mono ?_
      rintro e w1 ⟨rfl, h1, ho1⟩
      have x01 := ho1.cell x00 hb0g
      have x11 := ho1.cell x10 hb0g
      have x21 := ho1.cell x20 hb0g
      have xf1 := fun j => (ho1.froz x00 hb0g ⟨b0, j, none⟩ rfl).trans (xf0 j)
      have hot1 := hot0.trans ho1 fun _ _ h => h
      clear x00 x10 x20 xf0 ho1 hot0 hkey
      go_wp2_with fail
      refine (HNUM.out w1 h1).mono ?_
      rintro e w2 ⟨rfl, ho2⟩
      have x02 := ho2.cell x01 hb0g
      have x12 := ho2.cell x11 hb0g
      have x22 := ho2.cell x21 hb0g
      have xf2 := fun j => (ho2.froz x01 hb0g ⟨b0, j, none⟩ rfl).trans (xf1 j)
      have hot2 := hot1.trans ho2 fun _ _ h => h
      clear x01 x11 x21 xf1 ho2 hot1
      have f0 := xf2 0
      have f1 := xf2 1
      have f2 := xf2 2
      obtain ⟨y0, y1, y2, hset⟩ := threeset x02 x12 x22 (.string ⟨#[]⟩) (.slice none 0 0) (.bool false)
      have hob := hset.boxed hot2 hb0w
      go_wp2
      refine bodyPost_ret (v := .tuple #[.agg #[.string ⟨#[]⟩, .slice none 0 0, .bool false], .iface 73 (.agg #[.int .i64 (p : Nat), .iface 30 (.int .i64 (x : Nat))])]) (by simp [results, Tryd.results39, go_sem, y0, y1, y2]) rfl ⟨rfl, hob⟩
    · obtain ⟨hkk, hk2, _, hg1, -⟩ := hok2 gn k2 rfl
      have hk2' : k2 ≤ l.length := by omega
      clear hok2 hkk hk2
      dsimp only
      simp only [NumR] at hnum
      have HNUM := Lib.hid hnum
      clear hnum
      by_cases he : gn = 1
      · rw [if_pos he]
        have eg : ((gn : Int) == 1) = true := by simp; omega
        have HE := Lib.hid he
        clear he
        simp only [WrR]
        go_enter Tryd.func39, Tryd.ntmps39
        go_upto_region 1 with fail
        rw [← HWA.out, HB0.out]
        clear HWA HB0 hra
        go_wp2_with fail
        refine (hkey).mono ?_
        rintro e w1 ⟨rfl, h1, ho1⟩
        have x01 := ho1.cell x00 hb0g
        have x11 := ho1.cell x10 hb0g
        have x21 := ho1.cell x20 hb0g
        have xf1 := fun j => (ho1.froz x00 hb0g ⟨b0, j, none⟩ rfl).trans (xf0 j)
        have hot1 := hot0.trans ho1 fun _ _ h => h
        clear x00 x10 x20 xf0 ho1 hot0 hkey
        go_wp2_with fail
        refine (HNUM.out w1 h1).mono ?_
        rintro e w2 ⟨rfl, h2, ho2⟩
        have x02 := ho2.cell x01 hb0g
        have x12 := ho2.cell x11 hb0g
        have x22 := ho2.cell x21 hb0g
        have xf2 := fun j => (ho2.froz x01 hb0g ⟨b0, j, none⟩ rfl).trans (xf1 j)
        have hot2 := hot1.trans ho2 fun _ _ h => h
        clear x01 x11 x21 xf1 ho2 hot1
        have f0 := xf2 0
        have f1 := xf2 1
        have f2 := xf2 2
        obtain ⟨y0, y1, y2, hset⟩ := threeset x02 x12 x22 (.string s) (.slice none 0 0) (.bool true)
        have hob := hset.boxed hot2 hb0w
        go_wp2
        refine bodyPost_ret (v := .tuple #[.agg #[.string s, .slice none 0 0, .bool true], .nilIface]) (by simp [results, Tryd.results39, go_sem, y0, y1, y2]) rfl ⟨none, 0, 0, rfl, Seg.nil _ _, Nat.le_refl _, Nat.zero_le _, fun h => absurd h (by omega), ?_, hob⟩
        exact h2.onlyb hset (fun e => hb0g e.symm) hb0in
      · rw [if_neg he]
        have eg : ((gn : Int) == 1) = false := by simp; omega
        clear he
        have hrow := fun w2 (h2 : Re w2 g A n c l k2) => rowR_any h2
        generalize rrow l k2 = R at *
        rcases R with ⟨p, x⟩ | ⟨d, k3⟩
        · simp only [RowR, metV, WrR] at hrow ⊢
          have HROW := Lib.hid hrow
          clear hrow
          go_enter Tryd.func39, Tryd.ntmps39
          go_upto_region 1 with fail
          rw [← HWA.out, HB0.out]
          clear HWA HB0 hra
          go_wp2_with fail
          refine (hkey).mono ?_
          rintro e w1 ⟨rfl, h1, ho1⟩
          have x01 := ho1.cell x00 hb0g
          have x11 := ho1.cell x10 hb0g
          have x21 := ho1.cell x20 hb0g
          have xf1 := fun j => (ho1.froz x00 hb0g ⟨b0, j, none⟩ rfl).trans (xf0 j)
          have hot1 := hot0.trans ho1 fun _ _ h => h
          clear x00 x10 x20 xf0 ho1 hot0 hkey
          go_wp2_with fail
          refine (HNUM.out w1 h1).mono ?_
          rintro e w2 ⟨rfl, h2, ho2⟩
          have x02 := ho2.cell x01 hb0g
          have x12 := ho2.cell x11 hb0g
          have x22 := ho2.cell x21 hb0g
          have xf2 := fun j => (ho2.froz x01 hb0g ⟨b0, j, none⟩ rfl).trans (xf1 j)
          have hot2 := hot1.trans ho2 fun _ _ h => h
          clear x01 x11 x21 xf1 ho2 hot1
          have hsz2 := hot2.size
          have hb2l : b0 < w2.heap.size := World.block_lt_of_cell? w2 _ x02
          go_wp2_with fail
          refine (HROW.out w2 h2).mono ?_
          rintro e w3 ⟨rfl, ho3⟩
          have x03 := ho3.cell x02 hb0g
          have x13 := ho3.cell x12 hb0g
          have x23 := ho3.cell x22 hb0g
          have xf3 := fun j => (ho3.froz x02 hb0g ⟨b0, j, none⟩ rfl).trans (xf2 j)
          have hot3 := hot2.trans ho3 fun _ _ h => h
          clear x02 x12 x22 xf2 ho3 hot2
          have f0 := xf3 0
          have f1 := xf3 1
          have f2 := xf3 2
          obtain ⟨y0, y1, y2, hset⟩ := threeset x03 x13 x23 (.string ⟨#[]⟩) (.slice none 0 0) (.bool false)
          have hob := hset.boxed hot3 hb0w
          go_wp2
          refine bodyPost_ret (v := .tuple #[.agg #[.string ⟨#[]⟩, .slice none 0 0, .bool false], .iface 73 (.agg #[.int .i64 (p : Nat), .iface 30 (.int .i64 (x : Nat))])]) (by simp [results, Tryd.results39, go_sem, y0, y1, y2]) rfl ⟨rfl, hob⟩
        · simp only [RowR, WrR] at hrow ⊢
          have HROW := Lib.hid hrow
          clear hrow
          go_enter Tryd.func39, Tryd.ntmps39
          go_upto_region 1 with fail
          rw [← HWA.out, HB0.out]
          clear HWA HB0 hra
          go_wp2_with fail
          refine (hkey).mono ?_
          rintro e w1 ⟨rfl, h1, ho1⟩
          have x01 := ho1.cell x00 hb0g
          have x11 := ho1.cell x10 hb0g
          have x21 := ho1.cell x20 hb0g
          have xf1 := fun j => (ho1.froz x00 hb0g ⟨b0, j, none⟩ rfl).trans (xf0 j)
          have hot1 := hot0.trans ho1 fun _ _ h => h
          clear x00 x10 x20 xf0 ho1 hot0 hkey
          go_wp2_with fail
          refine (HNUM.out w1 h1).mono ?_
          rintro e w2 ⟨rfl, h2, ho2⟩
          have x02 := ho2.cell x01 hb0g
          have x12 := ho2.cell x11 hb0g
          have x22 := ho2.cell x21 hb0g
          have xf2 := fun j => (ho2.froz x01 hb0g ⟨b0, j, none⟩ rfl).trans (xf1 j)
          have hot2 := hot1.trans ho2 fun _ _ h => h
          clear x01 x11 x21 xf1 ho2 hot1
          have hsz2 := hot2.size
          have hb2l : b0 < w2.heap.size := World.block_lt_of_cell? w2 _ x02
          go_wp2_with fail
          refine (HROW.out w2 h2).mono ?_
          rintro e w3 ⟨v3, rfl, hov, h3, ho3⟩
          have x03 := ho3.cell x02 hb0g
          have x13 := ho3.cell x12 hb0g
          have x23 := ho3.cell x22 hb0g
          have xf3 := fun j => (ho3.froz x02 hb0g ⟨b0, j, none⟩ rfl).trans (xf2 j)
          have hot3 := hot2.trans ho3 fun _ _ h => h
          clear x02 x12 x22 xf2 ho3 hot2
          have hvl := hov.lt
          obtain ⟨A3, c3, rfl, hs3, hl3, hm3⟩ := hov.forms
          obtain ⟨q, hq⟩ : ∃ q, d.length = q := ⟨_, rfl⟩
          rw [hq] at hs3 hl3 hvl ⊢
          clear hq hov
          have f0 := xf3 0
          have f1 := xf3 1
          have f2 := xf3 2
          obtain ⟨y0, y1, y2, hset⟩ := threeset x03 x13 x23 (.string s) (.slice A3 q c3) (.bool false)
          have hob := hset.boxed hot3 hb0w
          go_wp2
          refine bodyPost_ret (v := .tuple #[.agg #[.string s, .slice A3 q c3, .bool false], .nilIface]) (by simp [results, Tryd.results39, go_sem, y0, y1, y2]) rfl ⟨A3, q, c3, rfl, ?_, hl3, hm3, fun _ a ha => ?_, ?_, hob⟩
          · exact hs3.only hset fun _ a ha e => by have e : a.block = b0 := e; have := (hvl a.block (by rw [ha]; rfl)).1; omega
          · have := (hvl a.block (by rw [ha]; rfl)).1; omega
          · exact h3.onlyb hset (fun e => hb0g e.symm) hb0in

end Go.Proofs.YtipfhcljdginoaaDoor
