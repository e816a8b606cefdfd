/-
  The walk of the law DiskOwn.
-/
import Derived.Test.YteeciicneedheaaDK4
namespace Go.Proofs.Yteeciicneedheaa
open Go.RowKit

/-- A row that may be written over: n cells at a block from lo on, below hi. -/
def Wr (w : World) (lo hi : Nat) (A : Option Addr) (n : Nat) : Prop :=
  0 < n → ∃ gx, A = some ⟨gx, 0, none⟩ ∧ lo ≤ gx ∧ gx < hi ∧ ∀ j, j < n → (∃ b : Int, w.cell? ⟨gx, j, none⟩ = some (.int .u8 b)) ∧ w.frozen? ⟨gx, j, none⟩ = false
theorem own_wr {w : World} {base : Nat} {e : TypeId} {A : Option Addr} {n c : Nat} {l : List UInt8} (h : Own w base e (.slice A n c) l) : Wr w base w.heap.size A n := by
  intro hn
  obtain ⟨A', c', hv, hs, _, _⟩ := h.forms
  injection hv with hA hln hc
  subst hA
  have hlt := h.lt
  rcases h.2 with ⟨hx, _⟩ | ⟨g', cap, cur, hx, hbb, hg, _, _, _, _⟩
  · injection hx with hA2 hn2 _
    omega
  · injection hx with hA2 _ _
    subst hA2
    refine ⟨g', rfl, hbb, (hlt g' rfl).2, fun j hj => ⟨?_, ?_⟩⟩
    · have := hs.cell rfl (k := j) (by omega)
      rw [Nat.zero_add] at this
      exact ⟨_, this⟩
    · simp [World.frozen?, hg]
theorem Wr.only {w w' : World} {S : Nat → Prop} {lo hi : Nat} {A : Option Addr} {n : Nat} (h : Wr w lo hi A n) (hw : Only w w' S) (hS : ∀ k, lo ≤ k → k < hi → ¬ S k) : Wr w' lo hi A n := by
  intro hn
  obtain ⟨gx, e, h1, h2, hj⟩ := h hn
  refine ⟨gx, e, h1, h2, fun j hl => ?_⟩
  obtain ⟨⟨b, hb⟩, hf⟩ := hj j hl
  exact ⟨⟨b, hw.cell hb (hS gx h1 h2)⟩, (hw.froz hb (hS gx h1 h2) ⟨gx, j, none⟩ rfl).trans hf⟩
theorem Wr.below {w w' : World} {lo hi : Nat} {A : Option Addr} {n : Nat} (h : Wr w lo hi A n) (hb : Below w.heap.size w w') : Wr w' lo hi A n := h.only (Only.of_below (S := fun _ => False) hb) fun _ _ _ => id
theorem Wr.set {w : World} {lo hi gx : Nat} {n j : Nat} (h : Wr w lo hi (some ⟨gx, 0, none⟩) n) (b : Int) : Wr (w.setCell ⟨gx, j, none⟩ (.int .u8 b)) lo hi (some ⟨gx, 0, none⟩) n := by
  intro hn
  obtain ⟨g', e, h1, h2, hj⟩ := h hn
  injection e with e
  injection e with e
  subst e
  refine ⟨gx, rfl, h1, h2, fun i hi => ?_⟩
  obtain ⟨⟨x, hx⟩, hf⟩ := hj i hi
  refine ⟨?_, by rw [World.frozen?_setCell]; exact hf⟩
  by_cases hij : j = i
  · subst hij
    exact ⟨b, World.cell?_setCell_same _ _ _ hx⟩
  · have hne : (⟨gx, j, none⟩ : Addr) ≠ ⟨gx, i, none⟩ := fun e => hij (by injection e)
    exact ⟨x, (World.cell?_setCell_other (h := hne) ..).trans hx⟩
theorem only_set (w : World) (g j : Nat) (v : Value) : Only w (w.setCell ⟨g, j, none⟩ v) (fun k => k = g) := (Only.refl w (fun k => k = g)).setCell ⟨g, j, none⟩ v fun _ => rfl

set_option maxRecDepth 8000 in
set_option maxHeartbeats 8000000 in
theorem diskOwn_core (A : Option Addr) (n c : Nat) (l : List UInt8) (A' : Option Addr) (n' c' : Nat) (l' : List UInt8) (y : Int) (w : World) (ha : Seg w A n l) (ha' : Seg w A' n' l') (h1 : n ≤ 40) (h2 : n' ≤ 40) :
    Calls Try.prog 6 #[.slice A n c, .slice A' n' c', .int .u8 y] w fun e w' => e = .returned (.bool true) ∧ Below w.heap.size w w' := by
  have d0 : decide ((40 : Int) < (n : Int)) = false := decide_eq_false (by omega)
  have d1 : decide ((40 : Int) < (n' : Int)) = false := decide_eq_false (by omega)
  obtain ⟨d, hd⟩ : ∃ d, l ++ l' = d := ⟨_, rfl⟩
  have HD := Lib.hid hd
  obtain ⟨N, hN⟩ : ∃ N, d.length = N := ⟨_, rfl⟩
  have HN := Lib.hid hN
  have HLEN := Lib.hid (show N = n + n' by rw [← hN, ← hd, List.length_append, ha.1, ha'.1])
  have h80 : N ≤ 80 := by have := HLEN.out; omega
  have HLN := Lib.hid ha.1
  have HLN' := Lib.hid ha'.1
  clear hd hN
  go_enter Try.func6, Try.ntmps6
  go_wp2_with fail
  refine (keeps_any _).mono ?_
  rintro e w1 ⟨rfl, hb1⟩
  have ha1 := ha.below hb1
  have ha1' := ha'.below hb1
  go_wp2_with fail
  refine (join_any A none n 0 c 0 l [] _ ha1 (Seg.nil _ _) (by omega)).mono ?_
  rintro e w2 ⟨v2, rfl, ho2, hb2⟩
  rw [List.append_nil] at ho2
  obtain ⟨Ax, cx, rfl, _, _, _⟩ := ho2.forms
  rw [HLN.out] at ho2 ⊢
  have ha2' := ha1'.below hb2
  have hbw2 := Below.next' hb1 hb2 hb1.size
  go_wp2_with fail
  refine (join_any A' none n' 0 c' 0 l' [] _ ha2' (Seg.nil _ _) (by omega)).mono ?_
  rintro e w3 ⟨v3, rfl, ho3, hb3⟩
  rw [List.append_nil] at ho3
  obtain ⟨Ay, cy, rfl, hsy, _, _⟩ := ho3.forms
  rw [HLN'.out] at ho3 hsy ⊢
  have hbw3 := Below.next' hbw2 hb3 hbw2.size
  have hwx := (own_wr ho2).below hb3
  have hwy := own_wr ho3
  have ho2 := ho2.below hb3
  obtain ⟨_, _, ex, hsx, _, _⟩ := ho2.forms
  rw [HLN.out] at hsx ex
  injection ex with ex1 _ ex2
  subst ex1 ex2
  have hz1 := hb1.size
  have hz2 := hb2.size
  have hz3 := hb3.size
  clear ha1 ha1' ha2' hb1 hb2 hb3 hbw2 ho2 ho3
  go_wp2_with fail
  refine (new_any Ax n cx l _ hsx (by omega)).mono ?_
  rintro e w4 ⟨g, v4, rfl, hd4, hb4⟩
  have hbw4 := Below.next' hbw3 hb4 hbw3.size
  have hsy4 := hsy.below hb4
  have hwx4 := hwx.below hb4
  have hwy4 := hwy.below hb4
  have hgB := hd4.hB
  clear hsx hwx hwy
  go_wp2_with fail
  refine (append_ok hd4 rfl Ay n' cy l' hsy4 (fun h a e => by have := hsy.lt h a e; omega) (by rw [HLN.out]; omega)).mono ?_
  rw [HD.out]
  rintro e w5 ⟨rfl, v5, hd5, ho5, _⟩
  rw [dn_false] at hd5
  have hge := hd4.ge
  have hbw5 := ho5.below hbw4 (fun k hk => Nat.le_trans hbw3.size (hge k hk)) hbw4.size
  have hwx5 := hwx4.only ho5 (fun k _ hk hs => by have := hge k hs; omega)
  have hwy5 := hwy4.only ho5 (fun k _ hk hs => by have := hge k hs; omega)
  clear hsy hsy4 hd4 hb4 hbw4 hwx4 hwy4 ho5 hge
  have hw3 := hbw3.size
  go_wp2_with fail
  go_loopw [10] (fun i w' => ∃ j : Nat, j ≤ n ∧ i = .int .i64 j ∧ Wr w' w1.heap.size w2.heap.size Ax n ∧ Wr w' w2.heap.size w3.heap.size Ay n' ∧ Dk w' w3.heap.size g v5 d n false 0 ∧ Below w.heap.size w w') (fun i _ => n - (intOf i).toNat)
  case atStart => exact ⟨0, by omega, rfl, hwx5, hwy5, hd5, hbw5⟩
  case round =>
    clear hwx5 hwy5 hd5 hbw5
    obtain ⟨j, hj, rfl, hx, hy, hdk, hbw⟩ := hrel
    by_cases hlt : j < n
    · obtain ⟨gx, rfl, hx1, hx2, hxj⟩ := hx (by omega)
      obtain ⟨⟨b0, q0⟩, f0⟩ := hxj j hlt
      clear hxj
      go_wp2
      go_roundw
      case rel =>
        refine ⟨j + 1, hlt, by go_num, hx.set _, hy.only (only_set _ _ _ _) (fun k hk1 hk2 e => ?_), hdk.only (only_set _ _ _ _) (fun k hk e => ?_), hbw.setCell (show w.heap.size ≤ gx by omega) _⟩
        · have e : k = gx := e
          omega
        · have e : k = gx := e
          have := hdk.ge k hk
          omega
      case measure => simp [intOf]; omega
    · obtain rfl : n = j := by omega
      clear hx
      rename World => wa
      go_wp2_with fail
      go_loopw [11] (fun i w' => ∃ j : Nat, j ≤ n' ∧ i = .int .i64 j ∧ Wr w' w2.heap.size w3.heap.size Ay n' ∧ Dk w' w3.heap.size g v5 d n false 0 ∧ Below w.heap.size w w') (fun i _ => n' - (intOf i).toNat)
      case atStart => exact ⟨0, by omega, rfl, hy, hdk, hbw⟩
      case round =>
        clear hy hdk hbw
        obtain ⟨j2, hj2, rfl, hy, hdk, hbw⟩ := hrel
        by_cases hlt2 : j2 < n'
        · obtain ⟨gx, rfl, hx1, hx2, hxj⟩ := hy (by omega)
          obtain ⟨⟨b0, q0⟩, f0⟩ := hxj j2 hlt2
          clear hxj
          go_wp2
          go_roundw
          case rel =>
            refine ⟨j2 + 1, hlt2, by go_num, hy.set _, hdk.only (only_set _ _ _ _) (fun k hk e => ?_), hbw.setCell (show w.heap.size ≤ gx by omega) _⟩
            have e : k = gx := e
            have := hdk.ge k hk
            omega
          case measure => simp [intOf]; omega
        · obtain rfl : n' = j2 := by omega
          clear hy
          rename World => wb
          go_wp2_with fail
          refine (dread_any hdk (by rw [HN.out]; omega)).mono ?_
          rintro e w6 ⟨v6, rfl, ho6, hb6⟩
          obtain ⟨Az, cz, rfl, _, _, _⟩ := ho6.forms
          rw [HN.out] at ho6 ⊢
          have hwz := own_wr ho6
          have hd6 := hdk.below hb6
          have hlt6 := hdk.lt
          have hbw6 := Below.next' hbw hb6 hbw.size
          have hzb := hbw.size
          clear hdk hbw hb6 ho6
          go_wp2_with fail
          go_loopw [13] (fun i w' => ∃ j : Nat, j ≤ N ∧ i = .int .i64 j ∧ Wr w' wb.heap.size w6.heap.size Az N ∧ Dk w' w3.heap.size g v5 d n false 0 ∧ Below w.heap.size w w') (fun i _ => N - (intOf i).toNat)
          case atStart => exact ⟨0, by omega, rfl, hwz, hd6, hbw6⟩
          case round =>
            clear hwz hd6 hbw6
            obtain ⟨j3, hj3, rfl, hy, hdk, hbw⟩ := hrel
            by_cases hlt3 : j3 < N
            · obtain ⟨gx, rfl, hx1, hx2, hxj⟩ := hy (by omega)
              obtain ⟨⟨b0, q0⟩, f0⟩ := hxj j3 hlt3
              clear hxj
              go_wp2
              go_roundw
              case rel =>
                refine ⟨j3 + 1, hlt3, by go_num, hy.set _, hdk.only (only_set _ _ _ _) (fun k hk e => ?_), hbw.setCell (show w.heap.size ≤ gx by omega) _⟩
                have e : k = gx := e
                have := hlt6 k hk
                omega
              case measure => simp [intOf]; omega
            · obtain rfl : N = j3 := by omega
              clear hy hlt6
              rename World => wc
              go_wp2_with fail
              refine (dread_any hdk (by rw [HN.out]; omega)).mono ?_
              rintro e w7 ⟨v7, rfl, ho7, hb7⟩
              obtain ⟨A7, c7, rfl, hs7, _, _⟩ := ho7.forms
              rw [HN.out] at hs7 ⊢
              have hbw7 := Below.next' hbw hb7 hbw.size
              have hp7 := ha.below hbw7
              have hp7' := ha'.below hbw7
              clear hdk hbw hb7 ho7
              go_wp2_with fail
              refine (join_any A A' _ _ c c' l l' _ hp7 hp7' (by omega)).mono ?_
              rw [HD.out]
              rintro e w8 ⟨v8, rfl, ho8, hb8⟩
              obtain ⟨A8, c8, rfl, hs8, _, _⟩ := ho8.forms
              rw [HN.out] at hs8 ⊢
              have hbw8 := Below.next' hbw7 hb8 hbw7.size
              have hs78 := hs7.below hb8
              clear hp7 hp7' hbw7 hb8 ho8 hs7
              go_wp2_with fail
              have hml : N ≤ maxLen := by simp only [maxLen]; omega
              refine (bytes_any A7 A8 N N c7 c8 d d _ hs78 hs8 hml).mono ?_
              rintro e w9 ⟨rfl, u, rfl⟩
              rw [show (d == d) = true by simp]
              have hbw9 := Below.drewN' hbw8 u
              clear hbw8 hs78 hs8 hml
              generalize w8.drewN u = w9 at *
              clear HD HN HLEN HLN HLN' ha ha' h80 d0 d1 hz1 hz2 hz3 hgB hw3
              go_wp2
              go_ret
              exact ⟨rfl, hbw9⟩

set_option maxRecDepth 8000 in
set_option maxHeartbeats 4000000 in
theorem diskOwn_long (A : Option Addr) (n c : Nat) (A' : Option Addr) (n' c' : Nat) (y : Int) (w : World) (h : ¬ (n ≤ 40 ∧ n' ≤ 40)) :
    Calls Try.prog 6 #[.slice A n c, .slice A' n' c', .int .u8 y] w fun e w' => e = .returned (.bool true) ∧ Below w.heap.size w w' := by
  have hc : 40 < n ∨ n ≤ 40 ∧ 40 < n' := by omega
  rcases hc with g0 | ⟨g0, g1⟩
  · have d0 : decide ((40 : Int) < (n : Int)) = true := decide_eq_true (by omega)
    go_enter Try.func6, Try.ntmps6
    go_wp2_with fail
    refine (keeps_any _).mono ?_
    rintro e w1 ⟨rfl, hb1⟩
    go_wp2_with fail
    refine (keeps_any _).mono ?_
    rintro e w2 ⟨rfl, hb2⟩
    go_wp2
    go_ret
    exact ⟨rfl, Below.next' hb1 hb2 hb1.size⟩
  · have d0 : decide ((40 : Int) < (n : Int)) = false := decide_eq_false (by omega)
    have d1 : decide ((40 : Int) < (n' : Int)) = true := decide_eq_true (by omega)
    go_enter Try.func6, Try.ntmps6
    go_wp2_with fail
    refine (keeps_any _).mono ?_
    rintro e w1 ⟨rfl, hb1⟩
    go_wp2_with fail
    refine (keeps_any _).mono ?_
    rintro e w2 ⟨rfl, hb2⟩
    go_wp2
    go_ret
    exact ⟨rfl, Below.next' hb1 hb2 hb1.size⟩

theorem diskOwn_walk (A : Option Addr) (n c : Nat) (l : List UInt8) (A' : Option Addr) (n' c' : Nat) (l' : List UInt8) (y : Int) (w : World) (ha : Seg w A n l) (_ : n ≤ c) (_ : c ≤ maxLen) (ha' : Seg w A' n' l') (_ : n' ≤ c') (_ : c' ≤ maxLen) (_ : (Lit.int .u8 y).wf = true) :
    Calls Try.prog 6 #[.slice A n c, .slice A' n' c', .int .u8 y] w fun e w' => e = .returned (.bool true) ∧ Below w.heap.size w w' := by
  by_cases hall : n ≤ 40 ∧ n' ≤ 40
  · exact diskOwn_core A n c l A' n' c' l' y w ha ha' hall.1 hall.2
  · exact diskOwn_long A n c A' n' c' y w hall

end Go.Proofs.Yteeciicneedheaa
