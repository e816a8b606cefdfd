/-
  The reader's batch, and Decode, told by the pure reader.
-/
import Derived.Test.YtipfhcljdginoaaDoorRA4
import Derived.Test.YtipfhcljdginoaaDoorQV
namespace Go.Proofs.YtipfhcljdginoaaDoor
open Go.RowKit

/-- Both cells of a result's box. -/
theorem twoset {w : World} {g : Nat} {a b : Value} (h0 : w.cell? ⟨g, 0, none⟩ = some a) (h1 : w.cell? ⟨g, 1, none⟩ = some b) (u v : Value) :
    ((w.setCell ⟨g, 0, none⟩ u).setCell ⟨g, 1, none⟩ v).cell? ⟨g, 0, none⟩ = some u ∧ ((w.setCell ⟨g, 0, none⟩ u).setCell ⟨g, 1, none⟩ v).cell? ⟨g, 1, none⟩ = some v ∧
      Only w ((w.setCell ⟨g, 0, none⟩ u).setCell ⟨g, 1, none⟩ v) (fun k => k = g) := by
  have n1 : (⟨g, 0, none⟩ : Addr) ≠ ⟨g, 1, none⟩ := by simp
  have n2 : (⟨g, 1, none⟩ : Addr) ≠ ⟨g, 0, none⟩ := by simp
  refine ⟨(World.cell?_setCell_other (h := n2) ..).trans (World.cell?_setCell_same _ _ _ h0), World.cell?_setCell_same _ _ _ ((World.cell?_setCell_other (h := n1) ..).trans h1), ?_⟩
  exact ((Only.refl w (fun k => k = g)).setCell ⟨g, 0, none⟩ u fun _ => rfl).setCell ⟨g, 1, none⟩ v fun _ => rfl
theorem Only.drewP {w w' : World} {S : Nat → Prop} (h : Only w w' S) (n : Nat) : Only w (w'.drewN n) S := h.drewN n

/-- What 'batch' answers. -/
def BatR (w : World) (g : Nat) (e : Ending) (w' : World) : Rr (Nat × List Wr6) → Prop
  | .bad p x => e = .returned (.tuple #[.agg #[.int .i64 0, .slice none 0 0], metV (p : Nat) (x : Nat)]) ∧ Only w w' (fun b => b = g)
  | .ok r _ => ∃ v, e = .returned (.tuple #[.agg #[.int .i64 (r.1 : Int), v], .nilIface]) ∧ OwnW w' w.heap.size v r.2 ∧ Only w w' (fun b => b = g)

set_option maxRecDepth 8000 in
set_option maxHeartbeats 8000000 in
theorem batR_any {w : World} {g : Nat} {A : Option Addr} {n c : Nat} {l : List UInt8} (h : Re w g A n c l 0) :
    Calls Tryd.prog 24 #[.pointer (some ⟨g, 0, none⟩)] w fun e w' => BatR w g e w' (rbatch l) := by
  obtain ⟨wa, hwa⟩ : ∃ wa, wa = w.alloc (.cells #[.int .i64 0, .slice none 0 0] 26) := ⟨_, rfl⟩
  obtain ⟨b0, hb0⟩ : ∃ b0, w.heap.size = b0 := ⟨_, rfl⟩
  have hba : Below w.heap.size w wa := by rw [hwa]; exact (Below.refl _ _).alloc (Nat.le_refl _) _
  have x00 : wa.cell? ⟨b0, 0, none⟩ = some (.int .i64 0) := by rw [hwa, ← hb0]; simp
  have x10 : wa.cell? ⟨b0, 1, none⟩ = some (.slice none 0 0) := by rw [hwa, ← hb0]; simp
  have xf0 : ∀ j, wa.frozen? ⟨b0, j, none⟩ = false := fun j => by rw [hwa, ← hb0]; simp
  have hgl := h.lt
  have hb0g : ¬ b0 = g := by omega
  have hb0w : w.heap.size ≤ b0 := by omega
  have hot0 : Only w wa (fun b => b = g) := Only.of_below hba
  have hra := h.below hba
  have hlen := h.len
  have hn6 := h.hn
  have HWA := Lib.hid hwa
  have HB0 := Lib.hid hb0
  clear hwa hb0 hba h
  have hnum := numR_any hra 8 1 9223372036854775807 (by omega)
  have hok1 := fun r k' (q : rnum l 0 8 1 9223372036854775807 = .ok r k') => rnum_ok q (by omega)
  unfold rbatch
  generalize rnum l 0 8 1 9223372036854775807 = R at *
  rcases R with ⟨p, x⟩ | ⟨N, k1⟩
  · simp only [NumR, metV, BatR] at hnum ⊢
    clear hok1
    go_enter Tryd.func24, Tryd.ntmps24
    go_upto_region 1 with fail
    rw [← HWA.out, HB0.out]
    clear HWA HB0 hra
    go_wp2_with fail
    refine (hnum).mono ?_
    rintro e w1 ⟨rfl, ho1⟩
    have x01 := ho1.cell x00 hb0g
    have x11 := ho1.cell x10 hb0g
    have xf1 := fun j => (ho1.froz x00 hb0g ⟨b0, j, none⟩ rfl).trans (xf0 j)
    have hot1 := hot0.trans ho1 fun _ _ h => h
    clear x00 x10 xf0 hot0 hnum
    have f0 := xf1 0
    have f1 := xf1 1
    obtain ⟨y0, y1, hset⟩ := twoset x01 x11 (.int .i64 0) (.slice none 0 0)
    have hob := hset.boxed hot1 hb0w
    go_wp2
    refine bodyPost_ret (v := .tuple #[.agg #[.int .i64 0, .slice none 0 0], .iface 73 (.agg #[.int .i64 (p : Nat), .iface 30 (.int .i64 (x : Nat))])]) (by simp [results, Tryd.results24, go_sem, y0, y1]) rfl ⟨rfl, hob⟩
  · obtain ⟨-, -, hN1, hN2, -⟩ := hok1 N k1 rfl
    clear hok1
    dsimp only
    simp only [NumR] at hnum
    have hws := fun w1 (h1 : Re w1 g A n c l k1) => wrsR_any h1
    generalize rwrites l k1 = R at *
    rcases R with ⟨p, x⟩ | ⟨D, k2⟩
    · simp only [WrsR, metV, BatR] at hws ⊢
      have HWS := Lib.hid hws
      clear hws
      go_enter Tryd.func24, Tryd.ntmps24
      go_upto_region 1 with fail
      rw [← HWA.out, HB0.out]
      clear HWA HB0 hra
      go_wp2_with fail
      refine (hnum).mono ?_
      rintro e w1 ⟨rfl, h1, ho1⟩
      have x01 := ho1.cell x00 hb0g
      have x11 := ho1.cell x10 hb0g
      have xf1 := fun j => (ho1.froz x00 hb0g ⟨b0, j, none⟩ rfl).trans (xf0 j)
      have hot1 := hot0.trans ho1 fun _ _ h => h
      clear x00 x10 xf0 hot0 hnum
      go_wp2_with fail
      refine (HWS.out w1 h1).mono ?_
      rintro e w2 ⟨rfl, ho2⟩
      have x02 := ho2.cell x01 hb0g
      have x12 := ho2.cell x11 hb0g
      have xf2 := fun j => (ho2.froz x01 hb0g ⟨b0, j, none⟩ rfl).trans (xf1 j)
      have hot2 := hot1.trans ho2 fun _ _ h => h
      clear x01 x11 xf1 hot1
      have f0 := xf2 0
      have f1 := xf2 1
      obtain ⟨y0, y1, hset⟩ := twoset x02 x12 (.int .i64 0) (.slice none 0 0)
      have hob := hset.boxed hot2 hb0w
      go_wp2
      refine bodyPost_ret (v := .tuple #[.agg #[.int .i64 0, .slice none 0 0], .iface 73 (.agg #[.int .i64 (p : Nat), .iface 30 (.int .i64 (x : Nat))])]) (by simp [results, Tryd.results24, go_sem, y0, y1]) rfl ⟨rfl, hob⟩
    · dsimp only
      simp only [WrsR] at hws
      have HWS := Lib.hid hws
      clear hws
      by_cases hlt : k2 < l.length
      · rw [if_pos hlt]
        have dlt : decide ((k2 : Int) < (n : Int)) = true := decide_eq_true (by omega)
        simp only [BatR, metV]
        go_enter Tryd.func24, Tryd.ntmps24
        go_upto_region 1 with fail
        rw [← HWA.out, HB0.out]
        clear HWA HB0 hra
        go_wp2_with fail
        refine (hnum).mono ?_
        rintro e w1 ⟨rfl, h1, ho1⟩
        have x01 := ho1.cell x00 hb0g
        have x11 := ho1.cell x10 hb0g
        have xf1 := fun j => (ho1.froz x00 hb0g ⟨b0, j, none⟩ rfl).trans (xf0 j)
        have hot1 := hot0.trans ho1 fun _ _ h => h
        clear x00 x10 xf0 hot0 hnum
        have hb1l : b0 < w1.heap.size := World.block_lt_of_cell? w1 _ x01
        have hw1l := hot1.size
        go_wp2_with fail
        refine (HWS.out w1 h1).mono ?_
        rintro e w2 ⟨v2, rfl, hv2, h2, ho2⟩
        have x02 := ho2.cell x01 hb0g
        have x12 := ho2.cell x11 hb0g
        have xf2 := fun j => (ho2.froz x01 hb0g ⟨b0, j, none⟩ rfl).trans (xf1 j)
        have hot2 := hot1.trans ho2 fun _ _ h => h
        clear x01 x11 xf1 hot1
        have r0 := h2.rd.p
        have r1 := h2.rd.at_
        go_wp2
        go_quiet (fail)
        go_wp2
        refine wp_region_noPanic (wp_region_till (fun W' => W'.cell? ⟨g, 1, none⟩ = some (.int .i64 (k2 : Int))) 9 (by kernel_rfl) ?_)
        have hot3 := hot2.drewP (nq + 1)
        have x03 : ((w2.drewN nq).drewN 1).cell? ⟨b0, 0, none⟩ = some (.int .i64 0) := x02
        have x13 : ((w2.drewN nq).drewN 1).cell? ⟨b0, 1, none⟩ = some (.slice none 0 0) := x12
        have xf3 : ∀ j, ((w2.drewN nq).drewN 1).frozen? ⟨b0, j, none⟩ = false := xf2
        have r13 : ((w2.drewN nq).drewN 1).cell? ⟨g, 1, none⟩ = some (.int .i64 (k2 : Int)) := r1
        skip
        change wpAnyT _ _ _ _ _ _ 10 _ _ ((w2.drewN nq).drewN 1)
        replace hot3 : Only w ((w2.drewN nq).drewN 1) (fun b => b = g) := (hot2.drewP nq).drewP 1
        clear x02 x12 xf2 r0 r1 h2 hv2 hot2
        generalize (w2.drewN nq).drewN 1 = w3 at *
        refine wpAnyT_take (i := 0) (v := .agg #[.int .i64 0, .slice none 0 0]) rfl (by kernel_rfl) (fun _ _ _ h => h) r13 (Or.inl ⟨rfl, fun W' hW => by go_simp⟩) ?_
        refine wpAnyT_take (i := 1) (v := .pointer (some ⟨g, 0, none⟩)) rfl (by kernel_rfl) (fun _ _ _ h => h) r13 (Or.inl ⟨rfl, fun W' hW => by go_simp⟩) ?_
        refine wpAnyT_take (i := 2) (v := .pointer (some ⟨g, 0, none⟩)) rfl (by kernel_rfl) (fun _ _ _ h => h) r13 (Or.inl ⟨rfl, fun W' hW => by go_simp⟩) ?_
        refine wpAnyT_take (i := 3) (v := .pointer (some ⟨g, 1, none⟩)) rfl (by kernel_rfl) (fun _ _ _ h => h) r13 (Or.inl ⟨rfl, fun W' hW => by go_simp⟩) ?_
        refine wpAnyT_take (i := 4) (v := .int .i64 (k2 : Int)) rfl (by kernel_rfl) (fun _ _ _ h => h) r13 (Or.inl ⟨rfl, fun W' hW => by go_simp⟩) ?_
        refine wpAnyT_take (i := 5) (v := .iface 30 (.int .i64 2)) rfl (by kernel_rfl) (fun _ _ _ h => h) r13 (Or.inl ⟨rfl, fun W' hW => by go_simp⟩) ?_
        refine wpAnyT_take (i := 6) (v := .agg #[.int .i64 (k2 : Int), .iface 30 (.int .i64 2)]) rfl (by kernel_rfl) (fun _ _ _ h => h) r13 (Or.inl ⟨rfl, fun W' hW => by go_simp⟩) ?_
        refine wpAnyT_take (i := 7) (v := .iface 73 (.agg #[.int .i64 (k2 : Nat), .iface 30 (.int .i64 (2))])) rfl (by kernel_rfl) (fun _ _ _ h => h) r13 (Or.inl ⟨rfl, fun W' hW => by go_simp⟩) ?_
        have f0 := xf3 0
        have f1 := xf3 1
        obtain ⟨y0, y1, hset⟩ := twoset x03 x13 (.int .i64 0) (.slice none 0 0)
        have hob := hset.boxed hot3 hb0w
        refine wpAnyT_step 8 rfl (by kernel_rfl) ?_
        go_wp2_with fail
        refine ⟨.inr (hset.cell r13 (fun e => hb0g e.symm)), ?_⟩
        refine wpAnyT_step 9 rfl (by kernel_rfl) ?_
        go_wp2_with fail
        refine ⟨.inl trivial, ?_⟩
        refine wpAnyT_done (by kernel_rfl) (NoPanic.normal ?_)
        go_wp2
        refine bodyPost_ret (v := .tuple #[.agg #[.int .i64 0, .slice none 0 0], .iface 73 (.agg #[.int .i64 (k2 : Nat), .iface 30 (.int .i64 (2))])]) (by simp [results, Tryd.results24, go_sem, y0, y1]) rfl ⟨rfl, hob⟩
      · rw [if_neg hlt]
        have dlt : decide ((k2 : Int) < (n : Int)) = false := decide_eq_false (by omega)
        simp only [BatR]
        go_enter Tryd.func24, Tryd.ntmps24
        go_upto_region 1 with fail
        rw [← HWA.out, HB0.out]
        clear HWA HB0 hra
        go_wp2_with fail
        refine (hnum).mono ?_
        rintro e w1 ⟨rfl, h1, ho1⟩
        have x01 := ho1.cell x00 hb0g
        have x11 := ho1.cell x10 hb0g
        have xf1 := fun j => (ho1.froz x00 hb0g ⟨b0, j, none⟩ rfl).trans (xf0 j)
        have hot1 := hot0.trans ho1 fun _ _ h => h
        clear x00 x10 xf0 hot0 hnum
        have hb1l : b0 < w1.heap.size := World.block_lt_of_cell? w1 _ x01
        have hw1l := hot1.size
        go_wp2_with fail
        refine (HWS.out w1 h1).mono ?_
        rintro e w2 ⟨v2, rfl, hv2, h2, ho2⟩
        have x02 := ho2.cell x01 hb0g
        have x12 := ho2.cell x11 hb0g
        have xf2 := fun j => (ho2.froz x01 hb0g ⟨b0, j, none⟩ rfl).trans (xf1 j)
        have hot2 := hot1.trans ho2 fun _ _ h => h
        clear x01 x11 xf1 hot1
        have r0 := h2.rd.p
        have r1 := h2.rd.at_
        have hvl : ∀ k, v2.ownBlock = some k → w1.heap.size ≤ k := fun k hk => by obtain ⟨S, hS, _⟩ := hv2; exact (hS.lt k hk).1
        obtain ⟨A2, c2, rfl, _, _, _⟩ := hv2.seg
        skip
        obtain ⟨q, hq⟩ : ∃ q, D.length = q := ⟨_, rfl⟩
        rw [hq] at hv2 hvl ⊢
        clear hq
        go_wp2
        go_quiet (fail)
        have f0 := xf2 0
        have f1 := xf2 1
        have g0 : (w2.drewN nq).cell? ⟨b0, 0, none⟩ = some (.int .i64 0) := x02
        have g1 : (w2.drewN nq).cell? ⟨b0, 1, none⟩ = some (.slice none 0 0) := x12
        have g2 : (w2.drewN nq).frozen? ⟨b0, 0, none⟩ = false := f0
        have g3 : (w2.drewN nq).frozen? ⟨b0, 1, none⟩ = false := f1
        obtain ⟨y0, y1, hset⟩ := twoset g0 g1 (.int .i64 (N : Int)) (.slice A2 q c2)
        have hob := hset.boxed (hot2.drewP nq) hb0w
        have hv3 := ((hv2.only ((Only.refl w2 (fun _ => False)).drewN nq) (fun _ _ _ => id)).only hset (fun k h1 _ e => by have e : k = b0 := e; omega)).mono (b := w.heap.size) (by omega)
        clear x02 x12 xf2 f0 f1 r0 r1 h2 hot2
        generalize w2.drewN nq = w3 at *
        go_wp2
        refine bodyPost_ret (v := .tuple #[.agg #[.int .i64 (N : Int), .slice A2 q c2], .nilIface]) (by simp [results, Tryd.results24, go_sem, y0, y1]) rfl ⟨_, rfl, hv3, hob⟩

end Go.Proofs.YtipfhcljdginoaaDoor
