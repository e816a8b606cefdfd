/-
  A log in memory, and the walks of the program's Open, Append, Sync, Size and of the document's Open.
-/
import Derived.Test.YtkmcnkonkalfkaaDoorWW7
import Derived.Test.YtkmcnkonkalfkaaDoorWW6
import Derived.Test.YtkmcnkonkalfkaaDoorWW5
import Derived.Test.YtkmcnkonkalfkaaDoorDK5
namespace Go.Proofs.YtkmcnkonkalfkaaDoor
open Go.RowKit

/-- A log at block gl: its disk at block g, how many bytes. -/
structure Lg (w : World) (gl g : Nat) (z : Int) : Prop where
  h0 : w.cell? ⟨gl, 0, none⟩ = some (.pointer (some ⟨g, 0, none⟩))
  h1 : w.cell? ⟨gl, 1, none⟩ = some (.int .i64 z)
  fr : ∀ j, w.frozen? ⟨gl, j, none⟩ = false
section
variable {w w' : World} {S : Nat → Prop} {gl g : Nat} {z : Int}
theorem Lg.lt (h : Lg w gl g z) : gl < w.heap.size := World.block_lt_of_cell? w _ h.h0
theorem Lg.only (h : Lg w gl g z) (hw : Only w w' S) (hg : ¬ S gl) : Lg w' gl g z :=
  ⟨hw.cell h.h0 hg, hw.cell h.h1 hg, fun j => (hw.froz h.h0 hg ⟨gl, j, none⟩ rfl).trans (h.fr j)⟩
theorem Lg.below (h : Lg w gl g z) (hb : Below w.heap.size w w') : Lg w' gl g z := h.only (Only.of_below (S := fun _ => False) hb) id
theorem Lg.set1 (h : Lg w gl g z) (u : Int) : Lg (w.setCell ⟨gl, 1, none⟩ (.int .i64 u)) gl g u := by
  have n1 : (⟨gl, 1, none⟩ : Addr) ≠ ⟨gl, 0, none⟩ := by simp
  exact ⟨(World.cell?_setCell_other (h := n1) ..).trans h.h0, World.cell?_setCell_same _ _ _ h.h1, fun j => by rw [World.frozen?_setCell]; exact h.fr j⟩
end

theorem walSync_any {w : World} {gl g : Nat} {z : Int} (h : Lg w gl g z) {B : Nat} {v : Value} {l : List UInt8} {s : Nat} {f : Bool} {c : Int} (hd : Dk w B g v l s f c) (b : Bool) (hw : wk f c = b) :
    Calls Tryd.prog 25 #[.pointer (some ⟨gl, 0, none⟩)] w fun e w' => e = .returned (.int .i64 (e9 b)) ∧ ∃ v', Dk w' B g v' l (if b = true then l.length else s) f (dn f c) ∧ Only w w' (DkS g v) ∧ Moved w v v' := by
  have h0 := h.h0
  have hsy := sync_un hd b hw
  generalize e9 b = E at *
  generalize (if b = true then l.length else s) = Z at *
  go_enter Tryd.func25, Tryd.ntmps25
  go_wp2_with fail
  refine hsy.mono ?_
  rintro e w1 ⟨rfl, v1, h1⟩
  go_wp2
  go_ret
  exact ⟨rfl, v1, h1⟩
theorem walSize_any {w : World} {gl g : Nat} {z : Int} (h : Lg w gl g z) :
    Calls Tryd.prog 34 #[.pointer (some ⟨gl, 0, none⟩)] w fun e w' => e = .returned (.int .i64 z) ∧ w' = w := by
  have h1 := h.h1
  go_enter Tryd.func34, Tryd.ntmps34
  go_wp2
  go_ret
  exact ⟨rfl, rfl⟩

set_option maxHeartbeats 4000000 in
theorem walOpen_whole {w : World} {B g : Nat} {v : Value} {l : List UInt8} {s : Nat} {f : Bool} {c : Int} (hd : Dk w B g v l s f c) (z : Nat) (hz : sizeL (scanL l) = z) (hl : l.length ≤ 100000) (hzl : l.length ≤ z) (ht : Tab w) :
    Calls Tryd.prog 22 #[.pointer (some ⟨g, 0, none⟩)] w fun e w' => ∃ gl u, e = .returned (.tuple #[.pointer (some ⟨gl, 0, none⟩), u, .int .i64 0]) ∧ OwnL w' w.heap.size u (scanL l) ∧ Lg w' gl g (z : Int) ∧ w.heap.size ≤ gl ∧ Below w.heap.size w w' := by
  have d0 : decide ((z : Int) < (l.length : Int)) = false := decide_eq_false (by omega)
  have HZ := Lib.hid hz
  clear hz
  go_enter Tryd.func22, Tryd.ntmps22
  go_wp2_with fail
  refine (dread_any hd (by omega)).mono ?_
  rintro e w1 ⟨v1, rfl, ho1, hb1⟩
  obtain ⟨A1, c1, rfl, hs1, hl1, hm1⟩ := ho1.forms
  go_wp2_with fail
  refine (scan_any A1 _ c1 l _ hs1 (by omega) hl1 hm1 (Tab.below ht hb1)).mono ?_
  rw [HZ.out]
  rintro e w2 ⟨v2, rfl, ho2, hb2⟩
  obtain ⟨A2, c2, rfl, _, _, _⟩ := ho2.seg
  have hbw2 := Below.next' hb1 hb2 hb1.size
  have ho3 := ho2.mono hb1.size
  clear ho2 ho1 hs1 hb1 hb2
  go_wp2
  go_ret3
  exact ⟨_, _, rfl, ho3.below ((Below.refl _ _).alloc (Nat.le_refl _) _), ⟨by simp, by simp, fun j => by simp⟩, hbw2.size, hbw2.alloc hbw2.size _⟩

set_option maxHeartbeats 4000000 in
theorem walOpen_cut {w : World} {B g : Nat} {v : Value} {l : List UInt8} {s : Nat} {f : Bool} {c : Int} (hd : Dk w B g v l s f c) (z : Nat) (hz : sizeL (scanL l) = z) (hl : l.length ≤ 100000) (hzl : z < l.length) (hw : wk f c = true) (ht : Tab w) :
    Calls Tryd.prog 22 #[.pointer (some ⟨g, 0, none⟩)] w fun e w' => ∃ gl u v', e = .returned (.tuple #[.pointer (some ⟨gl, 0, none⟩), u, .int .i64 0]) ∧ OwnL w' w.heap.size u (scanL l) ∧ Lg w' gl g (z : Int) ∧ w.heap.size ≤ gl ∧ Dk w' B g v' (l.take z) z f (dn f c) ∧ Only w w' (fun k => k = g) ∧ v'.ownBlock = v.ownBlock := by
  have d0 : decide ((z : Int) < (l.length : Int)) = true := decide_eq_true (by omega)
  have HZ := Lib.hid hz
  clear hz
  go_enter Tryd.func22, Tryd.ntmps22
  go_wp2_with fail
  refine (dread_any hd (by omega)).mono ?_
  rintro e w1 ⟨v1, rfl, ho1, hb1⟩
  obtain ⟨A1, c1, rfl, hs1, hl1, hm1⟩ := ho1.forms
  go_wp2_with fail
  refine (scan_any A1 _ c1 l _ hs1 (by omega) hl1 hm1 (Tab.below ht hb1)).mono ?_
  rw [HZ.out]
  rintro e w2 ⟨v2, rfl, ho2, hb2⟩
  obtain ⟨A2, c2, rfl, _, _, _⟩ := ho2.seg
  have hbw2 := Below.next' hb1 hb2 hb1.size
  have hz1 := hb1.size
  have hd2 := hd.below hbw2
  have hgl := hd.dc.lt
  clear ho1 hs1 hb1 hb2
  go_wp2_with fail
  refine (cut_ok hd2 hw (z : Int) (by omega)).mono ?_
  rw [show min (z : Int).toNat l.length = z by omega]
  rintro e w3 ⟨rfl, v3, hd3, ho3, hv3⟩
  have hon : Only w w3 (fun k => k = g) := (Only.of_below (S := fun k => k = g) hbw2).trans ho3 fun _ _ h => h
  have ho4 := (ho2.only ho3 (fun k hk _ e => by omega)).mono hz1
  have hz3 := hon.size
  clear ho2 ho3 hd2 hbw2
  go_wp2
  go_ret3
  exact ⟨_, _, v3, rfl, ho4.below ((Below.refl _ _).alloc (Nat.le_refl _) _), ⟨by simp, by simp, fun j => by simp⟩, hz3, hd3.alloc _, hon.alloc _, hv3⟩

set_option maxHeartbeats 4000000 in
theorem walOpen_bad {w : World} {B g : Nat} {v : Value} {l : List UInt8} {s : Nat} {f : Bool} {c : Int} (hd : Dk w B g v l s f c) (z : Nat) (hz : sizeL (scanL l) = z) (hl : l.length ≤ 100000) (hzl : z < l.length) (hw : wk f c = false) (ht : Tab w) :
    Calls Tryd.prog 22 #[.pointer (some ⟨g, 0, none⟩)] w fun e w' => e = .returned (.tuple #[.pointer none, .slice none 0 0, .int .i64 9]) ∧ Dk w' B g v l s f (dn f c) ∧ Only w w' (fun k => k = g) := by
  have d0 : decide ((z : Int) < (l.length : Int)) = true := decide_eq_true (by omega)
  have HZ := Lib.hid hz
  clear hz
  go_enter Tryd.func22, Tryd.ntmps22
  go_wp2_with fail
  refine (dread_any hd (by omega)).mono ?_
  rintro e w1 ⟨v1, rfl, ho1, hb1⟩
  obtain ⟨A1, c1, rfl, hs1, hl1, hm1⟩ := ho1.forms
  go_wp2_with fail
  refine (scan_any A1 _ c1 l _ hs1 (by omega) hl1 hm1 (Tab.below ht hb1)).mono ?_
  rw [HZ.out]
  rintro e w2 ⟨v2, rfl, ho2, hb2⟩
  obtain ⟨A2, c2, rfl, _, _, _⟩ := ho2.seg
  have hbw2 := Below.next' hb1 hb2 hb1.size
  have hd2 := hd.below hbw2
  clear ho1 hs1 hb1 hb2
  go_wp2_with fail
  refine (cut_bad hd2 hw _).mono ?_
  rintro e w3 ⟨rfl, hd3, ho3⟩
  go_wp2
  go_ret3
  exact ⟨rfl, hd3, (Only.of_below (S := fun k => k = g) hbw2).trans ho3 fun _ _ h => h⟩

/-- Does Open come to a log? -/
def okO (l : List UInt8) (k : Bool) : Bool := !decide (sizeL (scanL l) < l.length) || k
/-- Does it cut? -/
def cutO (l : List UInt8) (k : Bool) : Bool := decide (sizeL (scanL l) < l.length) && k
theorem walOpen_any {w : World} {B g : Nat} {v : Value} {l : List UInt8} {s : Nat} {f : Bool} {c : Int} (hd : Dk w B g v l s f c) (hl : l.length ≤ 100000) (k : Bool) (hw : wk f c = k) (ht : Tab w) :
    Calls Tryd.prog 22 #[.pointer (some ⟨g, 0, none⟩)] w fun e w' => ∃ p u v', e = .returned (.tuple #[p, u, .int .i64 (e9 (okO l k))]) ∧ OwnL w' w.heap.size u (if okO l k = true then scanL l else []) ∧
      (if okO l k = true then ∃ gl, p = .pointer (some ⟨gl, 0, none⟩) ∧ Lg w' gl g (sizeL (scanL l) : Int) ∧ w.heap.size ≤ gl else p = .pointer none) ∧
      Dk w' B g v' (if cutO l k = true then l.take (sizeL (scanL l)) else l) (if cutO l k = true then sizeL (scanL l) else s) f (if sizeL (scanL l) < l.length then dn f c else c) ∧ Only w w' (DkS g v) ∧ Moved w v v' := by
  by_cases hz : sizeL (scanL l) < l.length
  · rw [if_pos hz]
    rcases k with _ | _
    · have e1 : okO l false = false := by simp [okO, hz]
      have e2 : cutO l false = false := by simp [cutO]
      rw [e1, e2]
      refine (walOpen_bad hd _ rfl hl hz hw ht).mono ?_
      rintro e w' ⟨rfl, hd1, ho1⟩
      exact ⟨_, _, v, rfl, OwnL.nil _ _, rfl, hd1, ho1.mono fun k _ e => .inl e, Moved.refl _ _⟩
    · have e1 : okO l true = true := by simp [okO]
      have e2 : cutO l true = true := by simp [cutO, hz]
      rw [e1, e2]
      refine (walOpen_cut hd _ rfl hl hz hw ht).mono ?_
      rintro e w' ⟨gl, u, v', rfl, ho, hg, hgl, hd1, ho1, hv⟩
      exact ⟨_, u, v', rfl, ho, ⟨gl, rfl, hg, hgl⟩, hd1, ho1.mono fun k _ e => .inl e, Moved.of_eq hv⟩
  · have e1 : okO l k = true := by simp [okO, hz]
    have e2 : cutO l k = false := by simp [cutO, hz]
    rw [e1, e2, if_neg hz]
    refine (walOpen_whole hd _ rfl hl (by omega) ht).mono ?_
    rintro e w' ⟨gl, u, rfl, ho, hg, hgl, hb⟩
    exact ⟨_, u, v, rfl, ho, ⟨gl, rfl, hg, hgl⟩, hd.below hb, Only.of_below hb, Moved.refl _ _⟩

set_option maxHeartbeats 4000000 in
theorem walAppend_any {w : World} {gl g z : Nat} (h : Lg w gl g (z : Int)) {B : Nat} {v : Value} {l : List UInt8} {s : Nat} {f : Bool} {c : Int} (hd : Dk w B g v l s f c) (b : Bool) (hw : wk f c = b) (A : Option Addr) (n cp : Nat) (p : List UInt8) (hp : Seg w A n p) (hn : n ≤ 1000) (hz : z ≤ 100000) (hgl : ¬ DkS g v gl) (hl : l.length + (8 + n) ≤ 100000) (ht : Tab w) :
    Calls Tryd.prog 24 #[.pointer (some ⟨gl, 0, none⟩), .slice A n cp] w fun e w' => e = .returned (.int .i64 (e9 b)) ∧ ∃ v', Dk w' B g v' (if b = true then l ++ frameL p else l) s f (dn f c) ∧ Lg w' gl g ((if b = true then z + (8 + n) else z : Nat) : Int) ∧ Only w w' (fun k => DkS g v k ∨ k = gl) ∧ Moved w v v' := by
  have h0 := h.h0
  have hlg := h.lt
  have hgg := hd.dc.lt
  have hlt := hd.lt
  have d0 : decide ((1048576 : Int) < (n : Int)) = false := decide_eq_false (by omega)
  obtain ⟨fr, hfr⟩ : ∃ fr, frameL p = fr := ⟨_, rfl⟩
  rw [hfr]
  have HFR := Lib.hid hfr
  have HFL := Lib.hid (show fr.length = 8 + n by rw [← hfr, frameL_length, hp.1])
  clear hfr
  go_enter Tryd.func24, Tryd.ntmps24
  go_wp2
  refine wp_region_noPanic (wp_region_till (fun W' => W'.cell? ⟨gl, 0, none⟩ = some (.pointer (some ⟨g, 0, none⟩))) 7 (by kernel_rfl) ?_)
  have hD := Below.drewN' (Below.refl w.heap.size w) 1
  have x0 := cell_below hD h0
  have hp1 := hp.below hD
  change wpAnyT _ _ _ _ _ _ 8 _ _ (w.drewN 1)
  refine wpAnyT_take (i := 0) (v := .pointer (some ⟨gl, 0, none⟩)) rfl (by kernel_rfl) (fun _ _ _ h => h) x0 (Or.inl ⟨rfl, fun W' hW => by have q0 : W'.cell? ⟨gl, 0, none⟩ = _ := hW; go_simp⟩) ?_
  refine wpAnyT_take (i := 1) (v := .pointer (some ⟨gl, 0, none⟩)) rfl (by kernel_rfl) (fun _ _ _ h => h) x0 (Or.inl ⟨rfl, fun W' hW => by have q0 : W'.cell? ⟨gl, 0, none⟩ = _ := hW; go_simp⟩) ?_
  refine wpAnyT_take (i := 2) (v := .pointer (some ⟨gl, 0, none⟩)) rfl (by kernel_rfl) (fun _ _ _ h => h) x0 (Or.inl ⟨rfl, fun W' hW => by have q0 : W'.cell? ⟨gl, 0, none⟩ = _ := hW; go_simp⟩) ?_
  refine wpAnyT_take (i := 3) (v := .pointer (some ⟨g, 0, none⟩)) rfl (by kernel_rfl) (fun _ _ _ h => h) x0 (Or.inl ⟨rfl, fun W' hW => by have q0 : W'.cell? ⟨gl, 0, none⟩ = _ := hW; go_simp⟩) ?_
  refine wpAnyT_take (i := 4) (v := .slice A n cp) rfl (by kernel_rfl) (fun _ _ _ h => h) x0 (Or.inl ⟨rfl, fun W' hW => by have q0 : W'.cell? ⟨gl, 0, none⟩ = _ := hW; go_simp⟩) ?_
  refine wpAnyT_step 5 rfl (by decide +kernel) ?_
  go_wp2_with fail
  refine (frame_any A n cp p _ hp1 (by omega) (Tab.below ht hD)).mono ?_
  rw [HFR.out]
  rintro e w1 ⟨v1, rfl, ho1, hb1⟩
  have hlt1 := ho1.lt
  obtain ⟨A1, c1, rfl, hs1, _, _⟩ := ho1.forms
  rw [HFL.out] at hs1 hlt1 ⊢
  have hbw1 := Below.next' hD hb1 hD.size
  have hd1 := hd.below hbw1
  have h1 := h.below hbw1
  have x1 := h1.h0
  have hdz : w.heap.size ≤ (w.drewN 1).heap.size := hD.size
  clear ho1 hp1 x0 h0
  go_wp2_with fail
  refine ⟨.inr x1, ?_⟩
  refine wpAnyT_step 6 rfl (by decide +kernel) ?_
  go_wp2_with fail
  refine (append_un hd1 b hw A1 (8 + n) c1 fr hs1 (fun _ a e => by subst e; have := (hlt1 a.block rfl).1; omega) (by omega)).mono ?_
  rintro e w2 ⟨rfl, v2, hd2, ho2, hm2⟩
  have h2 := h1.only ho2 hgl
  have x2 := h2.h0
  have hon : Only w w2 (fun k => DkS g v k ∨ k = gl) := (Only.of_below (S := fun k => DkS g v k ∨ k = gl) hbw1).trans ho2 fun _ _ h => .inl h
  have hmv : Moved w v v2 := fun k hk => by
    rcases hm2 k hk with h3 | h3
    · exact .inl h3
    · exact .inr (Nat.le_trans hbw1.size h3)
  clear hs1 hlt1 hd1 h1 ho2 hm2 hb1 hD
  go_wp2_with fail
  refine ⟨.inr x2, ?_⟩
  refine wpAnyT_step 7 rfl (by decide +kernel) ?_
  go_wp2_with fail
  refine ⟨.inl trivial, ?_⟩
  refine wpAnyT_done (by decide +kernel) (NoPanic.normal ?_)
  have y1 := h2.h1
  have yf := h2.fr 1
  rcases b with _ | _
  · rw [show e9 false = 9 from rfl]
    go_wp2
    go_ret
    refine ⟨rfl, v2, ?_, ?_, hon, hmv⟩
    · simpa using hd2
    · simpa using h2
  · rw [show e9 true = 0 from rfl]
    have hwr1 : IntKind.i64.wrap (8 + (n : Int)) = 8 + (n : Int) := IntWalk.i64_in _ (by omega)
    have hwr2 : IntKind.i64.wrap ((z : Int) + (8 + (n : Int))) = ((z + (8 + n) : Nat) : Int) := by rw [IntWalk.i64_in _ (by omega)]; omega
    have hgl2 : ¬ DkS g v2 gl := by
      intro hk
      rcases hk with e | e
      · exact hgl (.inl e)
      · rcases hmv _ e with h3 | h3
        · exact hgl (.inr h3)
        · omega
    go_wp2
    go_ret
    have hst : Only w2 (w2.setCell ⟨gl, 1, none⟩ (.int .i64 ((z + (8 + n) : Nat) : Int))) (fun k => k = gl) := (Only.refl _ _).setCell _ _ fun _ => rfl
    refine ⟨rfl, v2, ?_, ?_, hon.trans hst fun _ _ h => .inr h, hmv⟩
    · simpa using hd2.only hst (fun k hk e => hgl2 (by rw [← e]; exact hk))
    · simpa using h2.set1 ((z + (8 + n) : Nat) : Int)

set_option maxHeartbeats 4000000 in
theorem ropen_whole {w : World} {B g : Nat} {v : Value} {l : List UInt8} {s : Nat} {c : Int} (hd : Mk w B g v l s c) (z : Nat) (hz : sizeL (scanL l) = z) (hl : l.length ≤ 100000) (hzl : l.length ≤ z) :
    Calls Tryd.prog 31 #[.pointer (some ⟨g, 0, none⟩)] w fun e w' => ∃ u, e = .returned (.tuple #[u, .int .i64 (z : Int), .int .i64 0]) ∧ OwnL w' w.heap.size u (scanL l) ∧ Below w.heap.size w w' := by
  obtain ⟨A0, c0, rfl, hsg, hlc, hcm⟩ := hd.own.forms
  have h0 := hd.mc.h0
  have hgl := hd.mc.lt
  have HZ := Lib.hid hz
  have d0 : decide ((z : Int) < (l.length : Int)) = false := decide_eq_false (by omega)
  clear hz
  go_enter Tryd.func31, Tryd.ntmps31
  go_wp2_with fail
  refine (rscan_any A0 _ c0 l _ hsg (by omega) hlc hcm).mono ?_
  rw [HZ.out]
  rintro e w2 ⟨v2, rfl, ho2, hb2⟩
  obtain ⟨A2, c2, rfl, _, _, _⟩ := ho2.seg
  have hd2 := hd.below hb2
  have y0 := hd2.mc.h0
  go_wp2
  go_ret3
  exact ⟨_, rfl, ho2, hb2⟩

set_option maxHeartbeats 4000000 in
theorem ropen_bad {w : World} {B g : Nat} {v : Value} {l : List UInt8} {s : Nat} {c : Int} (hd : Mk w B g v l s c) (z : Nat) (hz : sizeL (scanL l) = z) (hl : l.length ≤ 100000) (hzl : z < l.length) (hw : wm c = false) :
    Calls Tryd.prog 31 #[.pointer (some ⟨g, 0, none⟩)] w fun e w' => e = .returned (.tuple #[.slice none 0 0, .int .i64 0, .int .i64 9]) ∧ Mk w' B g v l s (dm c) ∧ Only w w' (fun k => k = g) := by
  obtain ⟨A0, c0, rfl, hsg, hlc, hcm⟩ := hd.own.forms
  have h0 := hd.mc.h0
  have hgl := hd.mc.lt
  have HZ := Lib.hid hz
  have d0 : decide ((z : Int) < (l.length : Int)) = true := decide_eq_true (by omega)
  clear hz
  go_enter Tryd.func31, Tryd.ntmps31
  go_wp2_with fail
  refine (rscan_any A0 _ c0 l _ hsg (by omega) hlc hcm).mono ?_
  rw [HZ.out]
  rintro e w2 ⟨v2, rfl, ho2, hb2⟩
  obtain ⟨A2, c2, rfl, _, _, _⟩ := ho2.seg
  have hd2 := hd.below hb2
  have y0 := hd2.mc.h0
  go_wp2_with fail
  refine (rcut_bad hd2 hw _).mono ?_
  rintro e w3 ⟨rfl, hd3, ho3⟩
  go_wp2
  go_ret3
  exact ⟨rfl, hd3, (Only.of_below (S := fun k => k = g) hb2).trans ho3 fun _ _ h => h⟩

set_option maxHeartbeats 4000000 in
theorem ropen_cut {w : World} {B g : Nat} {v : Value} {l : List UInt8} {s : Nat} {c : Int} (hd : Mk w B g v l s c) (z : Nat) (hz : sizeL (scanL l) = z) (hl : l.length ≤ 100000) (hzl : z < l.length) (hw : wm c = true) :
    Calls Tryd.prog 31 #[.pointer (some ⟨g, 0, none⟩)] w fun e w' => ∃ u v', e = .returned (.tuple #[u, .int .i64 (z : Int), .int .i64 0]) ∧ OwnL w' w.heap.size u (scanL l) ∧ Mk w' B g v' (l.take z) z (dm c) ∧ Only w w' (fun k => k = g) ∧ Moved w v v' := by
  obtain ⟨A0, c0, rfl, hsg, hlc, hcm⟩ := hd.own.forms
  have h0 := hd.mc.h0
  have hgl := hd.mc.lt
  have HZ := Lib.hid hz
  have d0 : decide ((z : Int) < (l.length : Int)) = true := decide_eq_true (by omega)
  clear hz
  go_enter Tryd.func31, Tryd.ntmps31
  go_wp2_with fail
  refine (rscan_any A0 _ c0 l _ hsg (by omega) hlc hcm).mono ?_
  rw [HZ.out]
  rintro e w2 ⟨v2, rfl, ho2, hb2⟩
  obtain ⟨A2, c2, rfl, _, _, _⟩ := ho2.seg
  have hd2 := hd.below hb2
  have y0 := hd2.mc.h0
  go_wp2_with fail
  refine (rcut_ok hd2 hw (z : Int) (by omega)).mono ?_
  rw [show min (z : Int).toNat l.length = z by omega]
  rintro e w3 ⟨rfl, v3, hd3, ho3, hm3⟩
  go_wp2
  go_ret3
  exact ⟨_, v3, rfl, ho2.only ho3 (fun k hk _ e => by omega), hd3, (Only.of_below (S := fun k => k = g) hb2).trans ho3 fun _ _ h => h, fun k hk => by
    rcases hm3 k hk with h3 | h3
    · exact .inl h3
    · exact .inr (Nat.le_trans hb2.size h3)⟩

theorem ropen_any {w : World} {B g : Nat} {v : Value} {l : List UInt8} {s : Nat} {c : Int} (hd : Mk w B g v l s c) (hl : l.length ≤ 100000) (k : Bool) (hw : wm c = k) :
    Calls Tryd.prog 31 #[.pointer (some ⟨g, 0, none⟩)] w fun e w' => ∃ u v', e = .returned (.tuple #[u, .int .i64 ((if okO l k = true then sizeL (scanL l) else 0 : Nat) : Int), .int .i64 (e9 (okO l k))]) ∧ OwnL w' w.heap.size u (if okO l k = true then scanL l else []) ∧
      Mk w' B g v' (if cutO l k = true then l.take (sizeL (scanL l)) else l) (if cutO l k = true then sizeL (scanL l) else s) (if sizeL (scanL l) < l.length then dm c else c) ∧ Only w w' (DkS g v) ∧ Moved w v v' := by
  by_cases hz : sizeL (scanL l) < l.length
  · rw [if_pos hz]
    rcases k with _ | _
    · have e1 : okO l false = false := by simp [okO, hz]
      have e2 : cutO l false = false := by simp [cutO]
      rw [e1, e2]
      refine (ropen_bad hd _ rfl hl hz hw).mono ?_
      rintro e w' ⟨rfl, hd1, ho1⟩
      exact ⟨_, v, rfl, OwnL.nil _ _, hd1, ho1.mono fun k _ e => .inl e, Moved.refl _ _⟩
    · have e1 : okO l true = true := by simp [okO]
      have e2 : cutO l true = true := by simp [cutO, hz]
      rw [e1, e2]
      refine (ropen_cut hd _ rfl hl hz hw).mono ?_
      rintro e w' ⟨u, v', rfl, ho, hd1, ho1, hv⟩
      exact ⟨u, v', rfl, ho, hd1, ho1.mono fun k _ e => .inl e, hv⟩
  · have e1 : okO l k = true := by simp [okO, hz]
    have e2 : cutO l k = false := by simp [cutO, hz]
    rw [e1, e2, if_neg hz]
    refine (ropen_whole hd _ rfl hl (by omega)).mono ?_
    rintro e w' ⟨u, rfl, ho, hb⟩
    exact ⟨u, v, rfl, ho, hd.below hb, Only.of_below hb, Moved.refl _ _⟩

end Go.Proofs.YtkmcnkonkalfkaaDoor
