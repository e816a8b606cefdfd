/-
  The walk of mix: a block's rounds, added to the words.
-/
import Derived.Test.YtaanaoimnecenaaDoorWA3
import Derived.Deep.WholeRow
namespace Go.Proofs.YtaanaoimnecenaaDoor
open Go.RowKit

theorem at35 : ArrT Tryd.prog 106 8 103 := ⟨agg_arr Tryd.underlying106, by kernel_rfl⟩
theorem sz43 : (Tryd.prog.info? 104).map (·.size) = some 64 := by kernel_rfl
theorem sz35 : (Tryd.prog.info? 106).map (·.size) = some 8 := by kernel_rfl

/-- The rounds' numbers lie in the program's first variable. -/
def Tab (w : World) : Prop := ∀ j, j < kTab.length → w.cell? ⟨0, 0 + j, none⟩ = some (.int .u32 (U (kTab.getD j 0)))
/-- A hasher in memory: its words, its block, how much of it is used. -/
structure Hs (w : World) (g : Nat) (s : S8) (blk : List UInt8) (u : Nat) : Prop where
  words : ArU w g 0 s.list
  block : ArB w g 8 blk
  len : blk.length = 64
  used : w.cell? ⟨g, 72, none⟩ = some (.int .i64 (u : Int))
  free : w.frozen? ⟨g, 72, none⟩ = false

theorem frozen_below {W W' : World} {a : Addr} {v : Value} (hb : Below W.heap.size W W') (h : W.cell? a = some v) : W'.frozen? a = W.frozen? a :=
  hb.frozen (World.block_lt_of_cell? W a h)
theorem Hs.below {w w' : World} {g : Nat} {s : S8} {blk : List UInt8} {u : Nat} (h : Hs w g s blk u) (hb : Below w.heap.size w w') : Hs w' g s blk u :=
  ⟨h.words.below hb, h.block.below hb, h.len, cell_below hb h.used, (frozen_below hb h.used).trans h.free⟩
theorem Hs.lt {w : World} {g : Nat} {s : S8} {blk : List UInt8} {u : Nat} (h : Hs w g s blk u) : g < w.heap.size := World.block_lt_of_cell? w _ h.used
theorem Tab.lt {w : World} (h : Tab w) : 0 < w.heap.size := World.block_lt_of_cell? w _ (h 0 (by decide))
theorem Tab.below {w w' : World} (h : Tab w) (hb : Below w.heap.size w w') : Tab w' := fun j hj => cell_below hb (h j hj)
theorem Tab.drewN {w : World} (h : Tab w) (k : Nat) : Tab (w.drewN k) := h
theorem Tab.keep {w w' : World} {row : Option Nat} (h : Tab w) (hg : w.grownBy w' row) (hr : some 0 ≠ row) : Tab w' :=
  fun j hj => (hg.cell_far ⟨0, 0 + j, none⟩ (Tab.lt h) hr).trans (h j hj)

theorem ArU.eight {w : World} {g : Nat} {t : S8} (h : ArU w g 0 t.list) : w.cell? ⟨g, 0, none⟩ = some (.int .u32 (U t.a)) ∧ w.cell? ⟨g, 1, none⟩ = some (.int .u32 (U t.b)) ∧ w.cell? ⟨g, 2, none⟩ = some (.int .u32 (U t.c)) ∧ w.cell? ⟨g, 3, none⟩ = some (.int .u32 (U t.d)) ∧
    w.cell? ⟨g, 4, none⟩ = some (.int .u32 (U t.e)) ∧ w.cell? ⟨g, 5, none⟩ = some (.int .u32 (U t.f)) ∧ w.cell? ⟨g, 6, none⟩ = some (.int .u32 (U t.g)) ∧ w.cell? ⟨g, 7, none⟩ = some (.int .u32 (U t.h)) :=
  ⟨h.1 0 (by simp [S8.list]), h.1 1 (by simp [S8.list]), h.1 2 (by simp [S8.list]), h.1 3 (by simp [S8.list]), h.1 4 (by simp [S8.list]), h.1 5 (by simp [S8.list]), h.1 6 (by simp [S8.list]), h.1 7 (by simp [S8.list])⟩

/-- The words behind k of the eight additions. -/
def part (s t : S8) (k : Nat) : List (BitVec 32) := (s.add t).list.take k ++ s.list.drop k
theorem part_set (s t : S8) (k : Nat) (h : k < 8) : (part s t k).set k (s.list.getD k 0 + t.list.getD k 0) = part s t (k + 1) := by
  match k, h with
  | 0, _ | 1, _ | 2, _ | 3, _ | 4, _ | 5, _ | 6, _ | 7, _ => rfl
theorem part_at (s t : S8) (k : Nat) (h : k < 8) : (part s t k).getD k 0 = s.list.getD k 0 := by
  match k, h with
  | 0, _ | 1, _ | 2, _ | 3, _ | 4, _ | 5, _ | 6, _ | 7, _ => rfl
theorem part_len (s t : S8) (k : Nat) (h : k ≤ 8) : (part s t k).length = 8 := by simp [part, S8.list, S8.add]; omega
theorem part_end (s t : S8) : part s t 8 = (s.add t).list := rfl

theorem grown_setCell (W : World) (b o : Nat) (v : Value) : W.grownBy (W.setCell ⟨b, o, none⟩ v) (some b) :=
  ⟨rfl, rfl, rfl, by simp, fun k _ hne => Below.heap_setCell _ _ _ _ (fun e => hne (by rw [e]))⟩
theorem grown_below {w w' : World} (h : Below w.heap.size w w') (row : Option Nat) : w.grownBy w' row := ⟨h.os, h.tape, h.output, h.size, fun k hk _ => h.block k hk⟩
theorem grown_drewN (w : World) (row : Option Nat) (k : Nat) : w.grownBy (w.drewN k) row := ⟨rfl, rfl, rfl, Nat.le_refl _, fun _ _ _ => rfl⟩
theorem grown_drew (w : World) (row : Option Nat) : w.grownBy w.drew row := ⟨rfl, rfl, rfl, Nat.le_refl _, fun _ _ _ => rfl⟩

set_option maxRecDepth 8000 in
set_option maxHeartbeats 4000000 in
theorem mix_any (g : Nat) (s : S8) (blk : List UInt8) (u : Nat) (w : World) (hh : Hs w g s blk u) (ht : Tab w) (hg : 0 < g) :
    Calls Tryd.prog 110 #[.pointer (some ⟨g, 0, none⟩)] w fun e w' => e = .returned (.tuple #[]) ∧ Hs w' g (comp s blk) blk u ∧ w.grownBy w' (some g) := by
  have HB := Lib.hid (hh.block.load (P := Tryd.prog) 64 hh.len)
  have HG := Lib.hid hg
  clear hg
  go_enter Tryd.func110, Tryd.ntmps110
  go_wp2_with (refine wpList_load_arr _ rfl (.tmp 8) _ _ _ at36 rfl _ _ rfl _ HB.out ?_)
  refine (schedule_any blk _ hh.len).mono ?_
  rintro e w1 ⟨rfl, hb1⟩
  have hl64 : (sched (own16 blk 16) 48).length = 64 := by rw [sched_length, own16_length]
  have HC : Hid (comp s blk = s.add (rnds (sched (own16 blk 16) 48) s 64)) := Lib.hid rfl
  generalize sched (own16 blk 16) 48 = Ws at *
  have hsz : (cellsU Ws).toArray.size = 64 := by rw [List.size_toArray, cellsU_length]; exact hl64
  have H64 := Lib.hid hl64
  have HZ := Lib.hid hsz
  clear hsz hl64
  have hw1 := hh.below hb1
  have HD := Lib.hid ((hw1.words.alloc (.cells (cellsU Ws).toArray 104)).load (P := Tryd.prog) 8 rfl)
  go_wp2_with (first
    | refine wpList_store_arr _ _ rfl (.tmp 2) (.tmp 10) _ _ _ at43 rfl _ _ rfl _ rfl HZ.out (run_storeCells_newAt _ _ _ _ _ rfl (by rw [H64.out]; exact sz43) (by rw [H64.out]; rfl)) ?_
    | refine wpList_load_arr _ rfl (.tmp 13) _ _ _ at35 rfl _ _ rfl _ HD.out ?_
    | refine wpList_store_arr _ _ rfl (.tmp 3) (.tmp 14) _ _ _ at35 rfl _ _ rfl _ rfl rfl (run_storeCells_newAt _ _ _ _ _ (World.size_alloc _ _).symm sz35 rfl) ?_)
  have q1 : Below w.heap.size w ((w1.alloc (.cells (cellsU Ws).toArray 104)).alloc (.cells (cellsU s.list).toArray 106)) := (hb1.alloc hb1.size _).alloc (by simp; have := hb1.size; omega) _
  have q2 : ArU ((w1.alloc (.cells (cellsU Ws).toArray 104)).alloc (.cells (cellsU s.list).toArray 106)) w1.heap.size 0 Ws := (ArU.new _ _ _ _ _ rfl rfl).alloc _
  have q3 : ArU ((w1.alloc (.cells (cellsU Ws).toArray 104)).alloc (.cells (cellsU s.list).toArray 106)) (w1.heap.size + 1) 0 s.list := ArU.new _ _ _ _ _ (by simp) rfl
  have q4 : w1.heap.size + 1 < ((w1.alloc (.cells (cellsU Ws).toArray 104)).alloc (.cells (cellsU s.list).toArray 106)).heap.size := by simp
  generalize (w1.alloc (.cells (cellsU Ws).toArray 104)).alloc (.cells (cellsU s.list).toArray 106) = W at *
  clear HD HB hw1
  have hb1s := hb1.size
  clear hb1
  generalize w1.heap.size = b2 at *
  go_loopw [4, 15] (fun _ i w' => ∃ (k : Nat), k ≤ 64 ∧ i = .int .i64 k ∧ ArU w' b2 0 Ws ∧ ArU w' (b2 + 1) 0 (rnds Ws s k).list ∧ Below w.heap.size w w' ∧ b2 + 1 < w'.heap.size) (fun _ i _ => 64 - (intOf i).toNat)
  case atStart => exact ⟨0, by omega, rfl, q2, q3, q1, q4⟩
  case round =>
    clear q1 q2 q3 q4
    obtain ⟨k, hk, rfl, r2, r3, r1, r4⟩ := hrel
    by_cases hlt : k < 64
    · have HR : Hid (rnds Ws s (k + 1) = rnd (rnds Ws s k) (kTab.getD k 0 + Ws.getD k 0)) := Lib.hid rfl
      have cK := (Tab.below ht r1) k (by simpa [kTab] using hlt)
      have cW := r2.1 k (by rw [H64.out]; exact hlt)
      simp only [Nat.zero_add] at cK cW
      obtain ⟨d0, d1, d2, d3, d4, d5, d6, d7⟩ := r3.eight
      generalize rnds Ws s k = t at *
      generalize kTab.getD k 0 = x at *
      generalize Ws.getD k 0 = y at *
      have ha0 : (k : Int) < 64 := by omega
      have kp := U_add
      go_wp2_with fail
      refine wp_region_still_tail 8 (by kernel_rfl) (by kernel_rfl) ?_
      simp only [List.take_succ_cons, List.take_zero, List.drop_succ_cons, List.drop_zero]
      change wpStill _ _ wr.drew _ _ _
      repeat
        refine wpStill_step (fun K hK => ?_)
        go_simp
        refine hK _ ?_
        clear hK K
      refine wpStill_nil ?_
      change wpList _ _ _ _ _ wr.drew
      clear kp cK cW d0 d1 d2 d3 d4 d5 d6 d7
      go_wp2_with fail
      refine (round_any t (x + y) _).mono ?_
      rintro e w2 ⟨rfl, hb2d⟩
      have hb2 : Below wr.heap.size wr w2 := Below.undrew hb2d
      clear hb2d
      have r2' := r2.below (w' := w2) hb2
      have r3' := r3.below (w' := w2) hb2
      have r1' : Below w.heap.size w w2 := Below.next' r1 hb2 r1.size
      have r4' : b2 + 1 < w2.heap.size := Nat.lt_of_lt_of_le r4 hb2.size
      generalize rnd t (x + y) = t' at *
      have hs0 : (storeCells ⟨b2 + 1, 0, none⟩ (#[Value.int .u32 (U t'.a), .int .u32 (U t'.b), .int .u32 (U t'.c), .int .u32 (U t'.d), .int .u32 (U t'.e), .int .u32 (U t'.f), .int .u32 (U t'.g), .int .u32 (U t'.h)] : Array Value).toList 0).run Tryd.prog w2 = .ok () (w2.setCells (b2 + 1) 0 (cellsU t'.list)) := r3'.store (P := Tryd.prog) (L := t'.list) (Nat.le_refl 8)
      have HS := Lib.hid hs0
      clear hs0
      generalize hw3 : w2.setCells (b2 + 1) 0 (cellsU t'.list) = w3 at *
      have HW3 := Lib.hid hw3
      clear hw3
      go_upto_region 6 with (refine wpList_store_arr _ _ rfl (.tmp 3) (.tmp 26) _ _ _ at35 rfl _ _ rfl _ rfl rfl HS.out ?_)
      clear HS
      have s2 : ArU w3 b2 0 Ws := by
        rw [← HW3.out]
        exact r2'.keep (fun j => World.cell?_setCells_out _ _ _ _ _ (fun e => by simp at e)) (fun j => World.frozen?_setCells _ _ _ _ _)
      have s3 : ArU w3 (b2 + 1) 0 (rnds Ws s (k + 1)).list := by
        rw [← HW3.out, HR.out]
        exact r3'.stored (Nat.le_refl 8)
      have s1 : Below w.heap.size w w3 := by
        rw [← HW3.out]
        exact Below.setCells _ (by omega) _ _ _ r1'
      have s4 : b2 + 1 < w3.heap.size := by
        rw [← HW3.out, size_setCells]
        exact r4'
      clear r2 r3 r1 r4 HR r2' r3' r1' r4' HW3 hb2
      go_wp2
      go_roundw
      case rel =>
        exact ⟨k + 1, by omega, by go_num, s2, s3, s1, s4⟩
      case measure => simp [intOf]; omega
    · obtain rfl : k = 64 := by omega
      clear hlt hk
      rw [show ((64 : Nat) : Int) = 64 from rfl]
      have hh' : Hs wr g s blk u := hh.below r1
      have hgl := hh.lt
      generalize hT : rnds Ws s 64 = t at *
      have HT := Lib.hid hT
      clear hT
      go_wp2_with fail
      go_loopw [5, 28] (fun _ i w' => ∃ (k : Nat), k ≤ 8 ∧ i = .int .i64 k ∧ ArU w' g 0 (part s t k) ∧ ArB w' g 8 blk ∧ w'.cell? ⟨g, 72, none⟩ = some (.int .i64 (u : Int)) ∧ w'.frozen? ⟨g, 72, none⟩ = false ∧ ArU w' (b2 + 1) 0 t.list ∧ w.grownBy w' (some g)) (fun _ i _ => 8 - (intOf i).toNat)
      case atStart => exact ⟨0, by omega, rfl, hh'.words, hh'.block, hh'.used, hh'.free, r3, grown_below r1 _⟩
      case round =>
        clear r1 r2 r3 r4 hh'
        obtain ⟨k, hk, rfl, p1, p2, p3, p4, p5, p6⟩ := hrel
        by_cases hlt : k < 8
        · have c1 := p1.1 k (by rw [part_len _ _ _ hk]; exact hlt)
          have f1 := p1.2 k (by rw [part_len _ _ _ hk]; exact hlt)
          have c5 := p5.1 k hlt
          rw [part_at s t k hlt] at c1
          have HP := Lib.hid (part_set s t k hlt)
          simp only [Nat.zero_add] at c1 f1 c5
          generalize s.list.getD k 0 = x at *
          generalize t.list.getD k 0 = y at *
          have ha0 : (k : Int) < 8 := by omega
          have kp := U_add
          go_wp2_with fail
          refine wp_region_still_tail 13 (by kernel_rfl) (by kernel_rfl) ?_
          simp only [List.take_succ_cons, List.take_zero, List.drop_succ_cons, List.drop_zero]
          change wpStill _ _ wr.drew _ _ _
          repeat
            refine wpStill_step (fun K hK => ?_)
            go_simp
            refine hK _ ?_
            clear hK K
          refine wpStill_nil ?_
          change wpList _ _ _ _ _ wr.drew
          clear kp c5
          go_wp2
          go_roundw
          case rel =>
            refine ⟨k + 1, by omega, by go_num, ?_, ?_, ?_, ?_, ?_, ?_⟩
            · have := p1.set k (by rw [part_len _ _ _ hk]; exact hlt) (x + y)
              rw [HP.out, Nat.zero_add] at this
              exact this
            · exact p2.other _ _ (.inr (.inl (by simp only; omega)))
            · exact (World.cell?_setCell_other _ _ _ _ (by intro e; injection e with _ e; omega)).trans p3
            · exact (World.frozen?_setCell _ _ _ _).trans p4
            · exact p5.other _ _ (.inl (by simp only; omega))
            · exact p6.trans ((grown_setCell _ _ _ _).trans (grown_drew _ _))
          case measure => simp [intOf]; omega
        · obtain rfl : k = 8 := by omega
          rw [part_end] at p1
          have hc : comp s blk = s.add t := by rw [HC.out]
          have HL := Lib.hid hh.len
          have HC' := Lib.hid hc
          clear hc HC HT hh ht
          go_wp2
          go_end0
          rw [HC'.out]
          exact ⟨rfl, ⟨p1, p2, HL.out, p3, p4⟩, p6⟩

end Go.Proofs.YtaanaoimnecenaaDoor
