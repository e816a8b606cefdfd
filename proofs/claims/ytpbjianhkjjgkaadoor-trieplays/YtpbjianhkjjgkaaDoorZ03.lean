/-
  Texts of one claim, joined.
-/
import Derived.Test.YtpbjianhkjjgkaaDoorZ02
import Derived.StillTailTactics
import Derived.Deep.WholeRow
namespace Go.Proofs.YtpbjianhkjjgkaaDoor
open Go.RowKit

theorem at36 : ArrT Tryd.prog 150 64 5 := ⟨agg_arr Tryd.underlying150, by kernel_rfl⟩
theorem at43 : ArrT Tryd.prog 111 64 110 := ⟨agg_arr Tryd.underlying111, by kernel_rfl⟩

set_option maxRecDepth 8000 in
set_option maxHeartbeats 4000000 in
theorem schedule_any (p : List UInt8) (w : World) (hp : p.length = 64) :
    Calls Tryd.prog 140 #[.agg (cellsB p).toArray] w fun e w' => e = .returned (.agg (cellsU (sched (own16 p 16) 48)).toArray) ∧ Below w.heap.size w w' := by
  go_enter Tryd.func140, Tryd.ntmps140
  go_wp2_with fail
  go_loopw [4, 5, 11] (fun _ _ i w' => ∃ (k : Nat) (L : List (BitVec 32)), k ≤ 16 ∧ i = .int .i64 k ∧ L.length = 64 ∧ L.take k = own16 p k ∧ ArB w' w.heap.size 0 p ∧ ArU w' (w.heap.size + 1) 0 (List.replicate 64 0) ∧ ArU w' (w.heap.size + 1 + 1) 0 L ∧ Below w.heap.size w w' ∧ w.heap.size + 1 + 1 < w'.heap.size) (fun _ _ i _ => 16 - (intOf i).toNat)
  case atStart =>
    refine ⟨0, List.replicate 64 0, by omega, rfl, by simp, rfl, ?_, ?_, ?_, ?_, by simp⟩
    · exact ((ArB.new _ _ _ _ _ rfl rfl).alloc _).alloc _
    · exact (ArU.new _ _ _ _ _ (by simp) rfl).alloc _
    · exact ArU.new _ _ _ _ _ (by simp) rfl
    · exact (((Below.refl _ _).alloc (Nat.le_refl _) _).alloc (by simp) _).alloc (by simp; omega) _
  case round =>
    obtain ⟨k, L, hk, rfl, hL, hT, hB, hR, hU, hbw, hsz⟩ := hrel
    by_cases hlt : k < 16
    · have c0 := hB.1 (4 * k) (by omega)
      have c1 := hB.1 (4 * k + 1) (by omega)
      have c2 := hB.1 (4 * k + 2) (by omega)
      have c3 := hB.1 (4 * k + 3) (by omega)
      have cU := hU.1 k (by omega)
      have fU := hU.2 k (by omega)
      simp only [Nat.zero_add] at c0 c1 c2 c3 cU fU
      have H4 := Lib.hid (take4 p k (by omega))
      generalize p.getD (4 * k) 0 = b0 at *
      generalize p.getD (4 * k + 1) 0 = b1 at *
      generalize p.getD (4 * k + 2) 0 = b2 at *
      generalize p.getD (4 * k + 3) 0 = b3 at *
      go_wp2_with fail
      have hi0 : 4 * (k : Int) < 64 := by omega
      have hi1 : 4 * (k : Int) + 1 < 64 := by omega
      have hi2 : 4 * (k : Int) + 2 < 64 := by omega
      have hi3 : 4 * (k : Int) + 3 < 64 := by omega
      have hj0 : 0 ≤ 4 * (k : Int) := by omega
      have hj1 : 0 ≤ 4 * (k : Int) + 1 := by omega
      have hj2 : 0 ≤ 4 * (k : Int) + 2 := by omega
      have hj3 : 0 ≤ 4 * (k : Int) + 3 := by omega
      have ht0 : (4 * (k : Int)).toNat = 4 * k := by omega
      have ht1 : (4 * (k : Int) + 1).toNat = 4 * k + 1 := by omega
      have ht2 : (4 * (k : Int) + 2).toNat = 4 * k + 2 := by omega
      have ht3 : (4 * (k : Int) + 3).toNat = 4 * k + 3 := by omega
      have hw1 : IntKind.i64.wrap (4 * (k : Int) + 1) = 4 * (k : Int) + 1 := IntWalk.i64_in _ (by omega)
      have hw2 : IntKind.i64.wrap (4 * (k : Int) + 2) = 4 * (k : Int) + 2 := IntWalk.i64_in _ (by omega)
      have hw3 : IntKind.i64.wrap (4 * (k : Int) + 3) = 4 * (k : Int) + 3 := IntWalk.i64_in _ (by omega)
      have hk6 : (k : Int) < 64 := by omega
      refine wp_region_still_tail 27 (by kernel_rfl) (by kernel_rfl) ?_
      simp only [List.take_succ_cons, List.take_zero, List.drop_succ_cons, List.drop_zero]
      change wpStill _ _ wr.drew _ _ _
      repeat
        refine wpStill_step (fun K hK => ?_)
        go_simp
        refine hK _ ?_
        clear hK K
      refine wpStill_nil ?_
      go_wp2
      go_roundw
      case rel =>
        rw [word_bytes]
        refine ⟨k + 1, L.set k (wd [b0, b1, b2, b3]), by omega, by go_num, by rw [List.length_set]; exact hL, ?_, ?_, ?_, ?_, ?_, ?_⟩
        · rw [set_take L k _ (by omega), hT, own16, H4.out]
        · exact hB.other _ _ (.inl (by simp only; omega))
        · exact hR.other _ _ (.inl (by simp only; omega))
        · have := hU.set k (by omega) (wd [b0, b1, b2, b3])
          rw [Nat.zero_add] at this
          exact this
        · exact (hbw.setCell (by simp; omega) _).drew
        · simpa using hsz
      case measure => simp [intOf]; omega
    · obtain rfl : k = 16 := by omega
      clear hlt hk
      rw [show ((16 : Nat) : Int) = 16 from rfl]
      have HL := Lib.hid hL
      have HT := Lib.hid hT
      clear hL hT
      go_wp2_with fail
      go_loopw [6, 7, 8, 9, 10] (fun i _ _ _ _ w' => ∃ (k : Nat) (L : List (BitVec 32)), k ≤ 48 ∧ i = .int .i64 ((k : Int) + 16) ∧ L.length = 64 ∧ L.take (k + 16) = sched (own16 p 16) k ∧ ArU w' (w.heap.size + 1) 0 (List.replicate 64 0) ∧ ArU w' (w.heap.size + 1 + 1) 0 L ∧ Below w.heap.size w w' ∧ w.heap.size + 1 + 1 < w'.heap.size) (fun i _ _ _ _ _ => 64 - (intOf i).toNat)
      case atStart => exact ⟨0, L, by omega, rfl, HL.out, HT.out, hR, hU, hbw, hsz⟩
      case round =>
        clear hB hR hU hbw hsz HL HT
        obtain ⟨k, L', hk, rfl, hL, hT, hR, hU, hbw, hsz⟩ := hrel
        by_cases hlt : k < 48
        · have hn : nextW (L'.take (k + 16)) = L'.getD k 0 + sm0 (L'.getD (k + 1) 0) + L'.getD (k + 9) 0 + sm1 (L'.getD (k + 14) 0) := by
            unfold nextW
            have : (L'.take (k + 16)).length = k + 16 := by rw [List.length_take]; omega
            rw [this, getD_take _ _ _ (by omega), getD_take _ _ _ (by omega), getD_take _ _ _ (by omega), getD_take _ _ _ (by omega)]
            congr
          have HN := Lib.hid hn
          clear hn
          have c0 := hU.1 k (by omega)
          have c1 := hU.1 (k + 1) (by omega)
          have c9 := hU.1 (k + 9) (by omega)
          have c14 := hU.1 (k + 14) (by omega)
          have cU := hU.1 (k + 16) (by omega)
          have fU := hU.2 (k + 16) (by omega)
          simp only [Nat.zero_add] at c0 c1 c9 c14 cU fU
          generalize L'.getD k 0 = x0 at *
          generalize L'.getD (k + 1) 0 = x1 at *
          generalize L'.getD (k + 9) 0 = x9 at *
          generalize L'.getD (k + 14) 0 = x14 at *
          have HL := Lib.hid hL
          have HT := Lib.hid hT
          clear hL hT
          go_wp2_with fail
          go_quiet (fail)
          have kx := U_xor
          have kp := U_add
          have k3 : ∀ a b : BitVec 32, bits .xor .u32 (U a) (U b / 8) = U (a ^^^ b >>> 3) := fun a b => by rw [← U_xor, ← U_shr]; rfl
          have k10 : ∀ a b : BitVec 32, bits .xor .u32 (U a) (U b / 1024) = U (a ^^^ b >>> 10) := fun a b => by rw [← U_xor, ← U_shr]; rfl
          go_wp2_with fail
          refine (right_at x1 _ 7 _ rfl (by omega) (by omega)).mono ?_
          rintro _ _ ⟨rfl, rfl⟩
          go_wp2_with fail
          refine (right_at x1 _ 18 _ rfl (by omega) (by omega)).mono ?_
          rintro _ _ ⟨rfl, rfl⟩
          go_wp2_with fail
          refine (right_at x14 _ 17 _ rfl (by omega) (by omega)).mono ?_
          rintro _ _ ⟨rfl, rfl⟩
          go_wp2_with fail
          refine (right_at x14 _ 19 _ rfl (by omega) (by omega)).mono ?_
          rintro _ _ ⟨rfl, rfl⟩
          go_wp2_with fail
          have hw0 : IntKind.i64.wrap ((k : Int) + 16 - 16) = (k : Int) := by rw [IntWalk.i64_in _ (by omega)]; omega
          have hw9 : IntKind.i64.wrap ((k : Int) + 16 - 7) = (k : Int) + 9 := by rw [IntWalk.i64_in _ (by omega)]; omega
          have hw0' : IntKind.i64.wrap (k : Int) = (k : Int) := IntWalk.i64_in _ (by omega)
          have hw9' : IntKind.i64.wrap ((k : Int) + 9) = (k : Int) + 9 := IntWalk.i64_in _ (by omega)
          have ha0 : (k : Int) < 64 := by omega
          have ha9 : (k : Int) + 9 < 64 := by omega
          have hb9 : 0 ≤ (k : Int) + 9 := by omega
          have ht9 : ((k : Int) + 9).toNat = k + 9 := by omega
          have ha16 : (k : Int) + 16 < 64 := by omega
          have hb16 : 0 ≤ (k : Int) + 16 := by omega
          have ht16 : ((k : Int) + 16).toNat = k + 16 := by omega
          refine wp_region_still_tail 15 (by kernel_rfl) (by kernel_rfl) ?_
          simp only [List.take_succ_cons, List.take_zero, List.drop_succ_cons, List.drop_zero]
          change wpStill _ _ (wr.drewN nq).drew _ _ _
          repeat
            refine wpStill_step (fun K hK => ?_)
            go_simp
            refine hK _ ?_
            clear hK K
          refine wpStill_nil ?_
          change wpList _ _ _ _ _ (wr.drewN nq).drew
          clear kx kp k3 k10 hw0 hw9 hw0' hw9' ha0 ha9 hb9 ht9 c0 c1 c9 c14
          go_wp2
          go_roundw
          case rel =>
            refine ⟨k + 1, L'.set (k + 16) (x0 + (ror x1 7 ^^^ ror x1 18 ^^^ x1 >>> 3) + x9 + (ror x14 17 ^^^ ror x14 19 ^^^ x14 >>> 10)), by omega, by go_num, by rw [List.length_set]; exact HL.out, ?_, ?_, ?_, ?_, ?_⟩
            · rw [show k + 1 + 16 = k + 16 + 1 from by omega, set_take L' _ _ (by rw [HL.out]; omega), sched, ← HT.out, HN.out]
              rfl
            · exact hR.other _ _ (.inl (by simp only; omega))
            · have := hU.set (k + 16) (by rw [HL.out]; omega) (x0 + (ror x1 7 ^^^ ror x1 18 ^^^ x1 >>> 3) + x9 + (ror x14 17 ^^^ ror x14 19 ^^^ x14 >>> 10))
              rw [Nat.zero_add] at this
              exact this
            · exact (Below.drewN' (hbw.setCell (by simp only; omega) _) nq).drew
            · simpa using hsz
          case measure => simp [intOf]; omega
        · obtain rfl : k = 48 := by omega
          have HS : Hid (List.take (48 + 16) L' = sched (own16 p 16) 48) := Lib.hid hT
          clear hT hlt hk
          have htk : List.take (48 + 16) L' = L' := List.take_of_length_le (by omega)
          have HTK := Lib.hid htk
          clear htk
          have hn64 : (cellsU L').toArray.size = 64 := by rw [List.size_toArray, cellsU_length]; exact hL
          have hl := hU.load (P := Tryd.prog) 64 hL
          have hs := hR.store (P := Tryd.prog) (L := L') (by rw [hL]; simp)
          have hst := hR.stored (L := L') (by rw [hL]; simp)
          have hl2 := hst.load (P := Tryd.prog) 64 hL
          have HA := Lib.hid hn64
          have HB := Lib.hid hl
          have HC := Lib.hid hs
          have HD := Lib.hid hl2
          clear hL hn64 hl hs hst hl2
          go_upto_region 15 with fail
          apply wp_region_lit
          refine wpList_load_arr _ rfl (.tmp 3) _ _ _ at43 rfl _ _ rfl _ HB.out ?_
          refine wpList_store_arr _ _ rfl (.tmp 2) (.tmp 87) _ _ _ at43 rfl _ _ rfl _ rfl HA.out HC.out ?_
          go_wp2
          refine bodyPost_ret (v := .agg (cellsU L').toArray) ?_ rfl ⟨?_, ?_⟩
          · exact results_arr _ Tryd.results140 _ at43 _ _ rfl _ HD.out
          · rw [← HS.out, HTK.out]
          · exact Below.setCells _ (by omega) _ _ _ hbw

end Go.Proofs.YtpbjianhkjjgkaaDoor

namespace Go.Proofs.YtpbjianhkjjgkaaDoor
open Go.RowKit

theorem at35 : ArrT Tryd.prog 113 8 110 := ⟨agg_arr Tryd.underlying113, by kernel_rfl⟩
theorem sz43 : (Tryd.prog.info? 111).map (·.size) = some 64 := by kernel_rfl
theorem sz35 : (Tryd.prog.info? 113).map (·.size) = some 8 := by kernel_rfl

/-- The rounds' numbers lie in the program's first variable. -/
def Tab (w : World) : Prop := ∀ j, j < kTab.length → w.cell? ⟨0, 0 + j, none⟩ = some (.int .u32 (U (kTab.getD j 0)))
/-- A hasher in memory: its words, its block, how much of it is used. -/
structure Hs (w : World) (g : Nat) (s : S8) (blk : List UInt8) (u : Nat) : Prop where
  words : ArU w g 0 s.list
  block : ArB w g 8 blk
  len : blk.length = 64
  used : w.cell? ⟨g, 72, none⟩ = some (.int .i64 (u : Int))
  free : w.frozen? ⟨g, 72, none⟩ = false

theorem frozen_below {W W' : World} {a : Addr} {v : Value} (hb : Below W.heap.size W W') (h : W.cell? a = some v) : W'.frozen? a = W.frozen? a :=
  hb.frozen (World.block_lt_of_cell? W a h)
theorem Hs.below {w w' : World} {g : Nat} {s : S8} {blk : List UInt8} {u : Nat} (h : Hs w g s blk u) (hb : Below w.heap.size w w') : Hs w' g s blk u :=
  ⟨h.words.below hb, h.block.below hb, h.len, cell_below hb h.used, (frozen_below hb h.used).trans h.free⟩
theorem Hs.lt {w : World} {g : Nat} {s : S8} {blk : List UInt8} {u : Nat} (h : Hs w g s blk u) : g < w.heap.size := World.block_lt_of_cell? w _ h.used
theorem Tab.lt {w : World} (h : Tab w) : 0 < w.heap.size := World.block_lt_of_cell? w _ (h 0 (by decide))
theorem Tab.below {w w' : World} (h : Tab w) (hb : Below w.heap.size w w') : Tab w' := fun j hj => cell_below hb (h j hj)
theorem Tab.drewN {w : World} (h : Tab w) (k : Nat) : Tab (w.drewN k) := h
theorem Tab.keep {w w' : World} {row : Option Nat} (h : Tab w) (hg : w.grownBy w' row) (hr : some 0 ≠ row) : Tab w' :=
  fun j hj => (hg.cell_far ⟨0, 0 + j, none⟩ (Tab.lt h) hr).trans (h j hj)

theorem ArU.eight {w : World} {g : Nat} {t : S8} (h : ArU w g 0 t.list) : w.cell? ⟨g, 0, none⟩ = some (.int .u32 (U t.a)) ∧ w.cell? ⟨g, 1, none⟩ = some (.int .u32 (U t.b)) ∧ w.cell? ⟨g, 2, none⟩ = some (.int .u32 (U t.c)) ∧ w.cell? ⟨g, 3, none⟩ = some (.int .u32 (U t.d)) ∧
    w.cell? ⟨g, 4, none⟩ = some (.int .u32 (U t.e)) ∧ w.cell? ⟨g, 5, none⟩ = some (.int .u32 (U t.f)) ∧ w.cell? ⟨g, 6, none⟩ = some (.int .u32 (U t.g)) ∧ w.cell? ⟨g, 7, none⟩ = some (.int .u32 (U t.h)) :=
  ⟨h.1 0 (by simp [S8.list]), h.1 1 (by simp [S8.list]), h.1 2 (by simp [S8.list]), h.1 3 (by simp [S8.list]), h.1 4 (by simp [S8.list]), h.1 5 (by simp [S8.list]), h.1 6 (by simp [S8.list]), h.1 7 (by simp [S8.list])⟩

/-- The words behind k of the eight additions. -/
def part (s t : S8) (k : Nat) : List (BitVec 32) := (s.add t).list.take k ++ s.list.drop k
theorem part_set (s t : S8) (k : Nat) (h : k < 8) : (part s t k).set k (s.list.getD k 0 + t.list.getD k 0) = part s t (k + 1) := by
  match k, h with
  | 0, _ | 1, _ | 2, _ | 3, _ | 4, _ | 5, _ | 6, _ | 7, _ => rfl
theorem part_at (s t : S8) (k : Nat) (h : k < 8) : (part s t k).getD k 0 = s.list.getD k 0 := by
  match k, h with
  | 0, _ | 1, _ | 2, _ | 3, _ | 4, _ | 5, _ | 6, _ | 7, _ => rfl
theorem part_len (s t : S8) (k : Nat) (h : k ≤ 8) : (part s t k).length = 8 := by simp [part, S8.list, S8.add]; omega
theorem part_end (s t : S8) : part s t 8 = (s.add t).list := rfl

theorem grown_setCell (W : World) (b o : Nat) (v : Value) : W.grownBy (W.setCell ⟨b, o, none⟩ v) (some b) :=
  ⟨rfl, rfl, rfl, by simp, fun k _ hne => Below.heap_setCell _ _ _ _ (fun e => hne (by rw [e]))⟩
theorem grown_below {w w' : World} (h : Below w.heap.size w w') (row : Option Nat) : w.grownBy w' row := ⟨h.os, h.tape, h.output, h.size, fun k hk _ => h.block k hk⟩
theorem grown_drewN (w : World) (row : Option Nat) (k : Nat) : w.grownBy (w.drewN k) row := ⟨rfl, rfl, rfl, Nat.le_refl _, fun _ _ _ => rfl⟩
theorem grown_drew (w : World) (row : Option Nat) : w.grownBy w.drew row := ⟨rfl, rfl, rfl, Nat.le_refl _, fun _ _ _ => rfl⟩

set_option maxRecDepth 8000 in
set_option maxHeartbeats 4000000 in
theorem mix_any (g : Nat) (s : S8) (blk : List UInt8) (u : Nat) (w : World) (hh : Hs w g s blk u) (ht : Tab w) (hg : 0 < g) :
    Calls Tryd.prog 130 #[.pointer (some ⟨g, 0, none⟩)] w fun e w' => e = .returned (.tuple #[]) ∧ Hs w' g (comp s blk) blk u ∧ w.grownBy w' (some g) := by
  have HB := Lib.hid (hh.block.load (P := Tryd.prog) 64 hh.len)
  have HG := Lib.hid hg
  clear hg
  go_enter Tryd.func130, Tryd.ntmps130
  go_wp2_with (refine wpList_load_arr _ rfl (.tmp 8) _ _ _ at36 rfl _ _ rfl _ HB.out ?_)
  refine (schedule_any blk _ hh.len).mono ?_
  rintro e w1 ⟨rfl, hb1⟩
  have hl64 : (sched (own16 blk 16) 48).length = 64 := by rw [sched_length, own16_length]
  have HC : Hid (comp s blk = s.add (rnds (sched (own16 blk 16) 48) s 64)) := Lib.hid rfl
  generalize sched (own16 blk 16) 48 = Ws at *
  have hsz : (cellsU Ws).toArray.size = 64 := by rw [List.size_toArray, cellsU_length]; exact hl64
  have H64 := Lib.hid hl64
  have HZ := Lib.hid hsz
  clear hsz hl64
  have hw1 := hh.below hb1
  have HD := Lib.hid ((hw1.words.alloc (.cells (cellsU Ws).toArray 111)).load (P := Tryd.prog) 8 rfl)
  go_wp2_with (first
    | refine wpList_store_arr _ _ rfl (.tmp 2) (.tmp 10) _ _ _ at43 rfl _ _ rfl _ rfl HZ.out (run_storeCells_newAt _ _ _ _ _ rfl (by rw [H64.out]; exact sz43) (by rw [H64.out]; rfl)) ?_
    | refine wpList_load_arr _ rfl (.tmp 13) _ _ _ at35 rfl _ _ rfl _ HD.out ?_
    | refine wpList_store_arr _ _ rfl (.tmp 3) (.tmp 14) _ _ _ at35 rfl _ _ rfl _ rfl rfl (run_storeCells_newAt _ _ _ _ _ (World.size_alloc _ _).symm sz35 rfl) ?_)
  have q1 : Below w.heap.size w ((w1.alloc (.cells (cellsU Ws).toArray 111)).alloc (.cells (cellsU s.list).toArray 113)) := (hb1.alloc hb1.size _).alloc (by simp; have := hb1.size; omega) _
  have q2 : ArU ((w1.alloc (.cells (cellsU Ws).toArray 111)).alloc (.cells (cellsU s.list).toArray 113)) w1.heap.size 0 Ws := (ArU.new _ _ _ _ _ rfl rfl).alloc _
  have q3 : ArU ((w1.alloc (.cells (cellsU Ws).toArray 111)).alloc (.cells (cellsU s.list).toArray 113)) (w1.heap.size + 1) 0 s.list := ArU.new _ _ _ _ _ (by simp) rfl
  have q4 : w1.heap.size + 1 < ((w1.alloc (.cells (cellsU Ws).toArray 111)).alloc (.cells (cellsU s.list).toArray 113)).heap.size := by simp
  generalize (w1.alloc (.cells (cellsU Ws).toArray 111)).alloc (.cells (cellsU s.list).toArray 113) = W at *
  clear HD HB hw1
  have hb1s := hb1.size
  clear hb1
  generalize w1.heap.size = b2 at *
  go_loopw [4, 15] (fun _ i w' => ∃ (k : Nat), k ≤ 64 ∧ i = .int .i64 k ∧ ArU w' b2 0 Ws ∧ ArU w' (b2 + 1) 0 (rnds Ws s k).list ∧ Below w.heap.size w w' ∧ b2 + 1 < w'.heap.size) (fun _ i _ => 64 - (intOf i).toNat)
  case atStart => exact ⟨0, by omega, rfl, q2, q3, q1, q4⟩
  case round =>
    clear q1 q2 q3 q4
    obtain ⟨k, hk, rfl, r2, r3, r1, r4⟩ := hrel
    by_cases hlt : k < 64
    · have HR : Hid (rnds Ws s (k + 1) = rnd (rnds Ws s k) (kTab.getD k 0 + Ws.getD k 0)) := Lib.hid rfl
      have cK := (Tab.below ht r1) k (by simpa [kTab] using hlt)
      have cW := r2.1 k (by rw [H64.out]; exact hlt)
      simp only [Nat.zero_add] at cK cW
      obtain ⟨d0, d1, d2, d3, d4, d5, d6, d7⟩ := r3.eight
      generalize rnds Ws s k = t at *
      generalize kTab.getD k 0 = x at *
      generalize Ws.getD k 0 = y at *
      have ha0 : (k : Int) < 64 := by omega
      have kp := U_add
      go_wp2_with fail
      refine wp_region_still_tail 8 (by kernel_rfl) (by kernel_rfl) ?_
      simp only [List.take_succ_cons, List.take_zero, List.drop_succ_cons, List.drop_zero]
      change wpStill _ _ wr.drew _ _ _
      repeat
        refine wpStill_step (fun K hK => ?_)
        go_simp
        refine hK _ ?_
        clear hK K
      refine wpStill_nil ?_
      change wpList _ _ _ _ _ wr.drew
      clear kp cK cW d0 d1 d2 d3 d4 d5 d6 d7
      go_wp2_with fail
      refine (round_any t (x + y) _).mono ?_
      rintro e w2 ⟨rfl, hb2d⟩
      have hb2 : Below wr.heap.size wr w2 := Below.undrew hb2d
      clear hb2d
      have r2' := r2.below (w' := w2) hb2
      have r3' := r3.below (w' := w2) hb2
      have r1' : Below w.heap.size w w2 := Below.next' r1 hb2 r1.size
      have r4' : b2 + 1 < w2.heap.size := Nat.lt_of_lt_of_le r4 hb2.size
      generalize rnd t (x + y) = t' at *
      have hs0 : (storeCells ⟨b2 + 1, 0, none⟩ (#[Value.int .u32 (U t'.a), .int .u32 (U t'.b), .int .u32 (U t'.c), .int .u32 (U t'.d), .int .u32 (U t'.e), .int .u32 (U t'.f), .int .u32 (U t'.g), .int .u32 (U t'.h)] : Array Value).toList 0).run Tryd.prog w2 = .ok () (w2.setCells (b2 + 1) 0 (cellsU t'.list)) := r3'.store (P := Tryd.prog) (L := t'.list) (Nat.le_refl 8)
      have HS := Lib.hid hs0
      clear hs0
      generalize hw3 : w2.setCells (b2 + 1) 0 (cellsU t'.list) = w3 at *
      have HW3 := Lib.hid hw3
      clear hw3
      go_upto_region 6 with (refine wpList_store_arr _ _ rfl (.tmp 3) (.tmp 26) _ _ _ at35 rfl _ _ rfl _ rfl rfl HS.out ?_)
      clear HS
      have s2 : ArU w3 b2 0 Ws := by
        rw [← HW3.out]
        exact r2'.keep (fun j => World.cell?_setCells_out _ _ _ _ _ (fun e => by simp at e)) (fun j => World.frozen?_setCells _ _ _ _ _)
      have s3 : ArU w3 (b2 + 1) 0 (rnds Ws s (k + 1)).list := by
        rw [← HW3.out, HR.out]
        exact r3'.stored (Nat.le_refl 8)
      have s1 : Below w.heap.size w w3 := by
        rw [← HW3.out]
        exact Below.setCells _ (by omega) _ _ _ r1'
      have s4 : b2 + 1 < w3.heap.size := by
        rw [← HW3.out, size_setCells]
        exact r4'
      clear r2 r3 r1 r4 HR r2' r3' r1' r4' HW3 hb2
      go_wp2
      go_roundw
      case rel =>
        exact ⟨k + 1, by omega, by go_num, s2, s3, s1, s4⟩
      case measure => simp [intOf]; omega
    · obtain rfl : k = 64 := by omega
      clear hlt hk
      rw [show ((64 : Nat) : Int) = 64 from rfl]
      have hh' : Hs wr g s blk u := hh.below r1
      have hgl := hh.lt
      generalize hT : rnds Ws s 64 = t at *
      have HT := Lib.hid hT
      clear hT
      go_wp2_with fail
      go_loopw [5, 28] (fun _ i w' => ∃ (k : Nat), k ≤ 8 ∧ i = .int .i64 k ∧ ArU w' g 0 (part s t k) ∧ ArB w' g 8 blk ∧ w'.cell? ⟨g, 72, none⟩ = some (.int .i64 (u : Int)) ∧ w'.frozen? ⟨g, 72, none⟩ = false ∧ ArU w' (b2 + 1) 0 t.list ∧ w.grownBy w' (some g)) (fun _ i _ => 8 - (intOf i).toNat)
      case atStart => exact ⟨0, by omega, rfl, hh'.words, hh'.block, hh'.used, hh'.free, r3, grown_below r1 _⟩
      case round =>
        clear r1 r2 r3 r4 hh'
        obtain ⟨k, hk, rfl, p1, p2, p3, p4, p5, p6⟩ := hrel
        by_cases hlt : k < 8
        · have c1 := p1.1 k (by rw [part_len _ _ _ hk]; exact hlt)
          have f1 := p1.2 k (by rw [part_len _ _ _ hk]; exact hlt)
          have c5 := p5.1 k hlt
          rw [part_at s t k hlt] at c1
          have HP := Lib.hid (part_set s t k hlt)
          simp only [Nat.zero_add] at c1 f1 c5
          generalize s.list.getD k 0 = x at *
          generalize t.list.getD k 0 = y at *
          have ha0 : (k : Int) < 8 := by omega
          have kp := U_add
          go_wp2_with fail
          refine wp_region_still_tail 13 (by kernel_rfl) (by kernel_rfl) ?_
          simp only [List.take_succ_cons, List.take_zero, List.drop_succ_cons, List.drop_zero]
          change wpStill _ _ wr.drew _ _ _
          repeat
            refine wpStill_step (fun K hK => ?_)
            go_simp
            refine hK _ ?_
            clear hK K
          refine wpStill_nil ?_
          change wpList _ _ _ _ _ wr.drew
          clear kp c5
          go_wp2
          go_roundw
          case rel =>
            refine ⟨k + 1, by omega, by go_num, ?_, ?_, ?_, ?_, ?_, ?_⟩
            · have := p1.set k (by rw [part_len _ _ _ hk]; exact hlt) (x + y)
              rw [HP.out, Nat.zero_add] at this
              exact this
            · exact p2.other _ _ (.inr (.inl (by simp only; omega)))
            · exact (World.cell?_setCell_other _ _ _ _ (by intro e; injection e with _ e; omega)).trans p3
            · exact (World.frozen?_setCell _ _ _ _).trans p4
            · exact p5.other _ _ (.inl (by simp only; omega))
            · exact p6.trans ((grown_setCell _ _ _ _).trans (grown_drew _ _))
          case measure => simp [intOf]; omega
        · obtain rfl : k = 8 := by omega
          rw [part_end] at p1
          have hc : comp s blk = s.add t := by rw [HC.out]
          have HL := Lib.hid hh.len
          have HC' := Lib.hid hc
          clear hc HC HT hh ht
          go_wp2
          go_end0
          rw [HC'.out]
          exact ⟨rfl, ⟨p1, p2, HL.out, p3, p4⟩, p6⟩

end Go.Proofs.YtpbjianhkjjgkaaDoor

namespace Go.Proofs.YtpbjianhkjjgkaaDoor
open Go.RowKit

/-- What a hasher holds when the bytes m have come. -/
structure St (m : List UInt8) (s : S8) (blk : List UInt8) (u : Nat) : Prop where
  words : s = digest m (m.length / 64)
  used : u = m.length % 64
  len : blk.length = 64
  rest : blk.take u = m.drop (64 * (m.length / 64))

theorem set_take8 (l : List UInt8) (k : Nat) (x : UInt8) (h : k < l.length) : (l.set k x).take (k + 1) = l.take k ++ [x] := by
  rw [List.take_succ_eq_append_getElem (by simpa using h)]
  congr 1
  · rw [List.take_set_of_le (Nat.le_refl _)]
  · simp
theorem St.lt {m : List UInt8} {s : S8} {blk : List UInt8} {u : Nat} (h : St m s blk u) : u < 64 := by rw [h.used]; omega
theorem St.more {m : List UInt8} {s : S8} {blk : List UInt8} {u : Nat} (h : St m s blk u) (b : UInt8) (hu : u + 1 ≠ 64) : St (m ++ [b]) s (blk.set u b) (u + 1) := by
  have h1 := h.used
  have hlt := h.lt
  have hd : (m ++ [b]).length / 64 = m.length / 64 := by rw [List.length_append, List.length_singleton]; omega
  refine ⟨?_, ?_, by rw [List.length_set]; exact h.len, ?_⟩
  · rw [hd, digest_append m [b] _ (by omega)]; exact h.words
  · rw [List.length_append, List.length_singleton]; omega
  · rw [set_take8 _ _ _ (by rw [h.len]; exact hlt), hd, List.drop_append_of_le_length (by omega), h.rest]
theorem St.full {m : List UInt8} {s : S8} {blk : List UInt8} {u : Nat} (h : St m s blk u) (b : UInt8) (hu : u + 1 = 64) : St (m ++ [b]) (comp s (blk.set u b)) (blk.set u b) 0 := by
  have h1 := h.used
  have hlt := h.lt
  have hlen := h.len
  have hd : (m ++ [b]).length / 64 = m.length / 64 + 1 := by rw [List.length_append, List.length_singleton]; omega
  have hb : blk.set u b = ((m ++ [b]).drop (64 * (m.length / 64))).take 64 := by
    rw [List.drop_append_of_le_length (by omega), ← h.rest, ← set_take8 _ _ _ (by omega), hu, List.take_take, Nat.min_self]
    rw [List.take_of_length_le (by rw [List.length_set]; omega)]
  refine ⟨?_, ?_, by rw [List.length_set]; exact h.len, ?_⟩
  · rw [hd, digest, digest_append m [b] _ (by omega), ← h.words, ← hb]
  · rw [List.length_append, List.length_singleton]; omega
  · rw [hd, List.drop_of_length_le (by rw [List.length_append, List.length_singleton]; omega)]
    rfl

theorem Seg.grown {w w' : World} {A : Option Addr} {n g : Nat} {l : List UInt8} (h : Seg w A n l) (hg : w.grownBy w' (some g)) (hne : 0 < n → ∀ a, A = some a → a.block ≠ g) : Seg w' A n l := by
  refine ⟨h.1, fun hn => ?_⟩
  obtain ⟨g', o, e, hc⟩ := h.2 hn
  refine ⟨g', o, e, fun j b hb => ?_⟩
  have := hc j b hb
  exact hg.cell this (by intro e'; injection e' with e'; exact hne hn _ e e')

theorem Hs.drew {w : World} {g : Nat} {s : S8} {blk : List UInt8} {u : Nat} (h : Hs w g s blk u) : Hs w.drew g s blk u := ⟨h.words, h.block, h.len, h.used, h.free⟩
theorem Hs.put {w : World} {g : Nat} {s : S8} {blk : List UInt8} {u : Nat} (h : Hs w g s blk u) (hu : u < 64) (b : UInt8) (x y : Int) (hx : x = (b.toNat : Int)) (z : Nat) (hy : y = (z : Int)) :
    Hs ((w.setCell ⟨g, 8 + u, none⟩ (.int .u8 x)).setCell ⟨g, 72, none⟩ (.int .i64 y)) g s (blk.set u b) z := by
  subst hx hy
  have hl := h.len
  refine ⟨?_, ?_, by rw [List.length_set]; exact hl, ?_, ?_⟩
  · exact (h.words.other _ _ (.inr (.inr (by simp [S8.list])))).other _ _ (.inr (.inr (by simp [S8.list])))
  · exact (h.block.set u (by omega) b _ rfl).other _ _ (.inr (.inr (by rw [List.length_set]; simp only; omega)))
  · exact World.cell?_setCell_same _ _ _ ((World.cell?_setCell_other _ _ _ _ (by intro e; injection e with _ e; omega)).trans h.used)
  · rw [World.frozen?_setCell, World.frozen?_setCell]
    exact h.free
theorem Hs.zero {w : World} {g : Nat} {s : S8} {blk : List UInt8} {u : Nat} (h : Hs w g s blk u) (z : Nat) (y : Int) (hy : y = (z : Int)) : Hs (w.setCell ⟨g, 72, none⟩ (.int .i64 y)) g s blk z := by
  subst hy
  have hl := h.len
  refine ⟨h.words.other _ _ (.inr (.inr (by simp [S8.list]))), h.block.other _ _ (.inr (.inr (by simp only; omega))), hl, World.cell?_setCell_same _ _ _ h.used, ?_⟩
  rw [World.frozen?_setCell]
  exact h.free

set_option maxRecDepth 8000 in
set_option maxHeartbeats 4000000 in
theorem write_any (g : Nat) (m : List UInt8) (s : S8) (blk : List UInt8) (u : Nat) (A : Option Addr) (n c : Nat) (l : List UInt8) (w : World) (hh : Hs w g s blk u) (hst : St m s blk u) (ht : Tab w) (hg : 0 < g)
    (ha : Seg w A n l) (hn : n ≤ maxLen) (hne : 0 < n → ∀ a, A = some a → a.block ≠ g) :
    Calls Tryd.prog 105 #[.pointer (some ⟨g, 0, none⟩), .slice A n c] w fun e w' => e = .returned (.tuple #[]) ∧ (∃ s' blk' u', Hs w' g s' blk' u' ∧ St (m ++ l) s' blk' u') ∧ w.grownBy w' (some g) := by
  unfold maxLen at hn
  have HG := Lib.hid hg
  clear hg
  go_enter Tryd.func105, Tryd.ntmps105
  go_wp2_with fail
  go_loopw [5, 8] (fun _ i w' => ∃ (k : Nat) (s' : S8) (blk' : List UInt8) (u' : Nat), k ≤ n ∧ i = .int .i64 k ∧ Hs w' g s' blk' u' ∧ St (m ++ l.take k) s' blk' u' ∧ w.grownBy w' (some g)) (fun _ i _ => n - (intOf i).toNat)
  case atStart => exact ⟨0, s, blk, u, by omega, rfl, hh, by simpa using hst, World.grownBy.refl _ _⟩
  case round =>
    clear hh hst
    obtain ⟨k, s, blk, u, hk, rfl, hh, hst, hgr⟩ := hrel
    have htw : Tab wr := Tab.keep ht hgr (by intro e; injection e with e; have := HG.out; omega)
    by_cases hlt : k < n
    · obtain ⟨g', o, rfl, hc⟩ := (ha.grown hgr hne).at_ hlt
      have HT := Lib.hid (show l.take (k + 1) = l.take k ++ [l[k]'(by rw [ha.1]; exact hlt)] from List.take_succ_eq_append_getElem (by rw [ha.1]; exact hlt))
      have hb0 := byte_lt (l[k]'(by rw [ha.1]; exact hlt))
      generalize l[k]'(by rw [ha.1]; exact hlt) = b at *
      have hu := hst.lt
      have cu := hh.used
      have fu := hh.free
      have cb := hh.block.1 u (by rw [hh.len]; exact hu)
      have fb := hh.block.2 u (by rw [hh.len]; exact hu)
      generalize blk.getD u 0 = b9 at *
      have hu' : (u : Int) < 64 := by omega
      by_cases hfull : u + 1 = 64
      · have hd : ((u : Int) + 1 == 64) = true := by simp; omega
        go_wp2_with fail
        refine wp_region_still_tail 9 (by kernel_rfl) (by kernel_rfl) ?_
        simp only [List.take_succ_cons, List.take_zero, List.drop_succ_cons, List.drop_zero]
        change wpStill _ _ wr.drew _ _ _
        repeat
          refine wpStill_step (fun K hK => ?_)
          go_simp
          refine hK _ ?_
          clear hK K
        refine wpStill_nil ?_
        change wpList _ _ _ _ _ wr.drew
        go_wp2_with fail
        have hp := (hh.put hu b (b.toNat : Int) ((u : Int) + 1) rfl (u + 1) (by omega)).drew
        have hgp : wr.grownBy (((wr.setCell ⟨g, 8 + u, none⟩ (.int .u8 (b.toNat : Int))).setCell ⟨g, 72, none⟩ (.int .i64 ((u : Int) + 1))).drew) (some g) := ((grown_setCell _ _ _ _).trans (grown_setCell _ _ _ _)).trans (grown_drew _ _)
        refine (mix_any g s (blk.set u b) (u + 1) _ hp (Tab.keep htw hgp (by intro e; injection e with e; have := HG.out; omega)) HG.out).mono ?_
        rintro e w2 ⟨rfl, hh2, hg2⟩
        have hs2 := hst.full b hfull
        have hgr2 : w.grownBy w2 (some g) := (hgr.trans hgp).trans hg2
        have cu2 := hh2.used
        have fu2 := hh2.free
        clear hp hgp hg2 hst hh hgr htw cu fu cb fb hd
        generalize comp s (blk.set u b) = s2 at *
        generalize blk.set u b = blk2 at *
        go_wp2
        go_roundw
        case rel => exact ⟨k + 1, s2, blk2, 0, by omega, by go_num, hh2.zero 0 _ rfl, by rw [HT.out, ← List.append_assoc]; exact hs2, hgr2.trans (grown_setCell _ _ _ _)⟩
        case measure => simp [intOf]; omega
      · have hd : ((u : Int) + 1 == 64) = false := by simp; omega
        go_wp2_with fail
        refine wp_region_still_tail 9 (by kernel_rfl) (by kernel_rfl) ?_
        simp only [List.take_succ_cons, List.take_zero, List.drop_succ_cons, List.drop_zero]
        change wpStill _ _ wr.drew _ _ _
        repeat
          refine wpStill_step (fun K hK => ?_)
          go_simp
          refine hK _ ?_
          clear hK K
        refine wpStill_nil ?_
        change wpList _ _ _ _ _ wr.drew
        go_wp2
        go_roundw
        case rel => exact ⟨k + 1, s, blk.set u b, u + 1, by omega, by go_num, (hh.put hu b (b.toNat : Int) ((u : Int) + 1) rfl (u + 1) (by omega)).drew, by rw [HT.out, ← List.append_assoc]; exact hst.more b hfull, hgr.trans (((grown_setCell _ _ _ _).trans (grown_setCell _ _ _ _)).trans (grown_drew _ _))⟩
        case measure => simp [intOf]; omega
    · have HK := Lib.hid (show l.take k = l from List.take_of_length_le (by rw [ha.1]; omega))
      go_wp2
      go_end0
      rw [HK.out] at hst
      exact ⟨rfl, ⟨s, blk, u, hh, hst⟩, hgr⟩

end Go.Proofs.YtpbjianhkjjgkaaDoor
