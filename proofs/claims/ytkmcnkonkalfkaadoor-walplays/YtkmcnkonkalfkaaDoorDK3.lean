/-
  The walks of the document's disk.
-/
import Derived.Test.YtkmcnkonkalfkaaDoorDK2
namespace Go.Proofs.YtkmcnkonkalfkaaDoor
open Go.RowKit

/-- The three cells of the document's disk at block g. -/
structure Mc (w : World) (g : Nat) (v : Value) (s : Int) (c : Int) : Prop where
  h0 : w.cell? ⟨g, 0, none⟩ = some v
  h1 : w.cell? ⟨g, 1, none⟩ = some (.int .i64 s)
  h2 : w.cell? ⟨g, 2, none⟩ = some (.int .i64 c)
  fr : ∀ j, w.frozen? ⟨g, j, none⟩ = false

section
variable {w w' : World} {S : Nat → Prop} {g : Nat} {v : Value} {s c : Int}
theorem Mc.lt (h : Mc w g v s c) : g < w.heap.size := World.block_lt_of_cell? w _ h.h0
theorem Mc.only (h : Mc w g v s c) (hw : Only w w' S) (hg : ¬ S g) : Mc w' g v s c :=
  ⟨hw.cell h.h0 hg, hw.cell h.h1 hg, hw.cell h.h2 hg, fun j => (hw.froz h.h0 hg ⟨g, j, none⟩ rfl).trans (h.fr j)⟩
theorem Mc.set0 (h : Mc w g v s c) (u : Value) : Mc (w.setCell ⟨g, 0, none⟩ u) g u s c := by
  have n1 : (⟨g, 0, none⟩ : Addr) ≠ ⟨g, 1, none⟩ := by simp
  have n2 : (⟨g, 0, none⟩ : Addr) ≠ ⟨g, 2, none⟩ := by simp
  exact ⟨World.cell?_setCell_same _ _ _ h.h0, (World.cell?_setCell_other (h := n1) ..).trans h.h1, (World.cell?_setCell_other (h := n2) ..).trans h.h2, fun j => by rw [World.frozen?_setCell]; exact h.fr j⟩
theorem Mc.set1 (h : Mc w g v s c) (u : Int) : Mc (w.setCell ⟨g, 1, none⟩ (.int .i64 u)) g v u c := by
  have n1 : (⟨g, 1, none⟩ : Addr) ≠ ⟨g, 0, none⟩ := by simp
  have n2 : (⟨g, 1, none⟩ : Addr) ≠ ⟨g, 2, none⟩ := by simp
  exact ⟨(World.cell?_setCell_other (h := n1) ..).trans h.h0, World.cell?_setCell_same _ _ _ h.h1, (World.cell?_setCell_other (h := n2) ..).trans h.h2, fun j => by rw [World.frozen?_setCell]; exact h.fr j⟩
theorem Mc.set2 (h : Mc w g v s c) (u : Int) : Mc (w.setCell ⟨g, 2, none⟩ (.int .i64 u)) g v s u := by
  have n1 : (⟨g, 2, none⟩ : Addr) ≠ ⟨g, 0, none⟩ := by simp
  have n2 : (⟨g, 2, none⟩ : Addr) ≠ ⟨g, 1, none⟩ := by simp
  exact ⟨(World.cell?_setCell_other (h := n1) ..).trans h.h0, (World.cell?_setCell_other (h := n2) ..).trans h.h1, World.cell?_setCell_same _ _ _ h.h2, fun j => by rw [World.frozen?_setCell]; exact h.fr j⟩
end

/-- The document's disk at block g: its bytes l in the row v of the call's own, how many are safe, and how many calls it does yet. -/
structure Mk (w : World) (B g : Nat) (v : Value) (l : List UInt8) (s : Nat) (c : Int) : Prop where
  mc : Mc w g v (s : Int) c
  own : Own w B 5 v l
  ap : v.ownBlock ≠ some g
  hB : B ≤ g
  hs : s ≤ l.length
  hc : -1 ≤ c ∧ c ≤ 1000

section
variable {w w' : World} {S : Nat → Prop} {B g : Nat} {v : Value} {l : List UInt8} {s : Nat} {c : Int}
theorem Mk.only (h : Mk w B g v l s c) (hw : Only w w' S) (hg : ∀ k, DkS g v k → ¬ S k) : Mk w' B g v l s c :=
  ⟨h.mc.only hw (hg g (.inl rfl)), h.own.only hw fun k hk => hg k (.inr hk), h.ap, h.hB, h.hs, h.hc⟩
theorem Mk.below (h : Mk w B g v l s c) (hb : Below w.heap.size w w') : Mk w' B g v l s c := h.only (Only.of_below (S := fun _ => False) hb) fun _ _ => id
theorem Mk.drewN (h : Mk w B g v l s c) (n : Nat) : Mk (w.drewN n) B g v l s c := h.only ((Only.refl w fun _ => False).drewN n) fun _ _ => id
theorem Mk.mono (h : Mk w B g v l s c) {b : Nat} (hb : b ≤ B) : Mk w b g v l s c := ⟨h.mc, h.own.mono hb, h.ap, Nat.le_trans hb h.hB, h.hs, h.hc⟩
theorem Mk.ge (h : Mk w B g v l s c) : ∀ k, DkS g v k → B ≤ k := fun k hk => by
  rcases hk with rfl | hk
  · exact h.hB
  · exact (h.own.lt k hk).1
theorem Mk.lt (h : Mk w B g v l s c) : ∀ k, DkS g v k → k < w.heap.size := fun k hk => by
  rcases hk with rfl | hk
  · exact h.mc.lt
  · exact (h.own.lt k hk).2
end

def wm (c : Int) : Bool := c != 0
def dm (c : Int) : Int := if 0 < c then c - 1 else c

set_option maxHeartbeats 1000000 in
theorem rcall_any {w : World} {B g : Nat} {v : Value} {l : List UInt8} {s : Nat} {c : Int} (hd : Mk w B g v l s c) :
    Calls Tryd.prog 43 #[.pointer (some ⟨g, 0, none⟩)] w fun e w' => e = .returned (.bool (wm c)) ∧ Mk w' B g v l s (dm c) ∧ Only w w' (fun k => k = g) := by
  have h2 := hd.mc.h2
  have h4 := hd.mc.fr 2
  obtain ⟨c0, c1⟩ := hd.hc
  by_cases hz : c = 0
  · subst hz
    rw [show wm 0 = false from rfl, show dm 0 = 0 from rfl]
    go_enter Tryd.func43, Tryd.ntmps43
    go_wp2
    go_ret
    exact ⟨rfl, hd, Only.refl _ _⟩
  · rw [show wm c = true by simp [wm, hz]]
    by_cases hp : 0 < c
    · rw [show dm c = c - 1 by simp [dm, hp]]
      go_enter Tryd.func43, Tryd.ntmps43
      go_wp2
      go_ret
      have ho : Only w (w.setCell ⟨g, 2, none⟩ (.int .i64 (c - 1))) (fun k => k = g) := (Only.refl _ _).setCell _ _ fun _ => rfl
      exact ⟨rfl, ⟨hd.mc.set2 _, hd.own.only ho (fun k hk e => hd.ap (by rw [hk, e])), hd.ap, hd.hB, hd.hs, ⟨by omega, by omega⟩⟩, ho⟩
    · rw [show dm c = c by simp [dm, hp]]
      go_enter Tryd.func43, Tryd.ntmps43
      go_wp2
      go_ret
      exact ⟨rfl, hd, Only.refl _ _⟩

set_option maxHeartbeats 1000000 in
theorem rnew_any (A : Option Addr) (n c : Nat) (l : List UInt8) (w : World) (ha : Seg w A n l) (hn : n ≤ 1000000) :
    Calls Tryd.prog 21 #[.slice A n c] w fun e w' => ∃ g v, e = .returned (.pointer (some ⟨g, 0, none⟩)) ∧ Mk w' w.heap.size g v l n (-1) ∧ Below w.heap.size w w' := by
  have HN := Lib.hid ha.1
  go_enter Tryd.func21, Tryd.ntmps21
  go_wp2_with fail
  refine (join_any A none n 0 c 0 l [] _ ha (Seg.nil _ _) (by omega)).mono ?_
  rintro e w1 ⟨v1, rfl, ho1, hb1⟩
  rw [List.append_nil] at ho1
  obtain ⟨A1, c1, rfl, _, _, _⟩ := ho1.forms
  go_wp2
  go_ret
  have hlt := ho1.lt
  refine ⟨_, _, rfl, ⟨⟨by simp, by simp, by simp, fun j => by simp⟩, ho1.alloc _, fun e => ?_, hb1.size, by rw [HN.out]; exact Nat.le_refl _, by omega, by omega⟩, hb1.alloc hb1.size _⟩
  have := (hlt _ e).2
  omega

set_option maxHeartbeats 1000000 in
theorem rappend_bad {w : World} {B g : Nat} {v : Value} {l : List UInt8} {s : Nat} {c : Int} (hd : Mk w B g v l s c) (hw : wm c = false) (x : Value) :
    Calls Tryd.prog 23 #[.pointer (some ⟨g, 0, none⟩), x] w fun e w' => e = .returned (.int .i64 9) ∧ Mk w' B g v l s (dm c) ∧ Only w w' (fun k => k = g) := by
  have ht := rcall_any hd
  rw [hw] at ht
  go_enter Tryd.func23, Tryd.ntmps23
  go_wp2_with fail
  refine ht.mono ?_
  rintro e w1 ⟨rfl, hd1, ho1⟩
  go_wp2
  go_ret
  exact ⟨rfl, hd1, ho1⟩

set_option maxHeartbeats 1000000 in
theorem rappend_ok {w : World} {B g : Nat} {v : Value} {l : List UInt8} {s : Nat} {c : Int} (hd : Mk w B g v l s c) (hw : wm c = true) (A : Option Addr) (n cp : Nat) (p : List UInt8) (hp : Seg w A n p) (hap : 0 < n → ∀ a, A = some a → a.block ≠ g) (hl : l.length + n ≤ 1000000) :
    Calls Tryd.prog 23 #[.pointer (some ⟨g, 0, none⟩), .slice A n cp] w fun e w' => e = .returned (.int .i64 0) ∧ ∃ v', Mk w' B g v' (l ++ p) s (dm c) ∧ Only w w' (fun k => k = g) ∧ Moved w v v' := by
  obtain ⟨A0, c0, rfl, _, hlc, hcm⟩ := hd.own.forms
  have ht := rcall_any hd
  rw [hw] at ht
  go_enter Tryd.func23, Tryd.ntmps23
  go_wp2_with fail
  refine ht.mono ?_
  rintro e w1 ⟨rfl, hd1, ho1⟩
  have h0 := hd1.mc.h0
  have hp1 := hp.only ho1 hap
  have hB1 : B ≤ w1.heap.size := Nat.le_of_lt (Nat.lt_of_le_of_lt hd1.hB hd1.mc.lt)
  obtain ⟨_, _, e, hsg, _, _⟩ := hd1.own.forms
  injection e with e1 _ e2
  subst e1 e2
  clear ht hp
  go_wp2_with fail
  refine (join_any A0 A l.length n c0 cp l p _ hsg hp1 (by omega)).mono ?_
  rintro e w2 ⟨v2, rfl, ho2, hb2⟩
  obtain ⟨A2, c2, rfl, _, _, _⟩ := ho2.forms
  obtain ⟨m2, hm2⟩ : ∃ m2, (l ++ p).length = m2 := ⟨_, rfl⟩
  rw [hm2] at ho2 ⊢
  have HM2 := Lib.hid hm2
  clear hm2
  have hd2 := hd1.below hb2
  have z0 := hd2.mc.h0
  have zf := hd2.mc.fr 0
  clear h0 hsg hp1
  go_wp2
  go_ret
  have hon : Only w2 (w2.setCell ⟨g, 0, none⟩ (.slice A2 m2 c2)) (fun k => k = g) := (Only.refl _ _).setCell _ _ fun _ => rfl
  have hlt := ho2.lt
  have hgl := hd1.mc.lt
  refine ⟨rfl, _, ⟨hd2.mc.set0 _, (ho2.mono hB1).only hon (fun k hk e => ?_), fun e => ?_, hd1.hB, by rw [List.length_append]; have := hd1.hs; omega, hd1.hc⟩, ?_, Moved.of_ge fun k hk => ?_⟩
  · have := (hlt k hk).1
    omega
  · have := (hlt _ e).1
    omega
  · exact (ho1.trans (Only.of_below (S := fun _ => False) hb2) fun _ _ h => h.elim).trans hon fun _ _ h => h
  · have := (hlt k hk).1
    have := ho1.size
    omega

set_option maxHeartbeats 1000000 in
theorem rsync_bad {w : World} {B g : Nat} {v : Value} {l : List UInt8} {s : Nat} {c : Int} (hd : Mk w B g v l s c) (hw : wm c = false) :
    Calls Tryd.prog 26 #[.pointer (some ⟨g, 0, none⟩)] w fun e w' => e = .returned (.int .i64 9) ∧ Mk w' B g v l s (dm c) ∧ Only w w' (fun k => k = g) := by
  have ht := rcall_any hd
  rw [hw] at ht
  go_enter Tryd.func26, Tryd.ntmps26
  go_wp2_with fail
  refine ht.mono ?_
  rintro e w1 ⟨rfl, hd1, ho1⟩
  go_wp2
  go_ret
  exact ⟨rfl, hd1, ho1⟩

set_option maxHeartbeats 1000000 in
theorem rsync_ok {w : World} {B g : Nat} {v : Value} {l : List UInt8} {s : Nat} {c : Int} (hd : Mk w B g v l s c) (hw : wm c = true) :
    Calls Tryd.prog 26 #[.pointer (some ⟨g, 0, none⟩)] w fun e w' => e = .returned (.int .i64 0) ∧ Mk w' B g v l l.length (dm c) ∧ Only w w' (fun k => k = g) := by
  obtain ⟨A0, c0, rfl, _, hlc, hcm⟩ := hd.own.forms
  have ht := rcall_any hd
  rw [hw] at ht
  go_enter Tryd.func26, Tryd.ntmps26
  go_wp2_with fail
  refine ht.mono ?_
  rintro e w1 ⟨rfl, hd1, ho1⟩
  have h0 := hd1.mc.h0
  have h1 := hd1.mc.h1
  have f1 := hd1.mc.fr 1
  clear ht
  go_wp2
  go_ret
  have hon : Only w1 (w1.setCell ⟨g, 1, none⟩ (.int .i64 (l.length : Int))) (fun k => k = g) := (Only.refl _ _).setCell _ _ fun _ => rfl
  exact ⟨rfl, ⟨hd1.mc.set1 _, hd1.own.only hon (fun k hk e => hd1.ap (by rw [hk, e])), hd1.ap, hd1.hB, Nat.le_refl _, hd1.hc⟩, ho1.trans hon fun _ _ h => h⟩

set_option maxHeartbeats 1000000 in
theorem rfail_any {w : World} {B g : Nat} {v : Value} {l : List UInt8} {s : Nat} {c : Int} (hd : Mk w B g v l s c) (x : Int) (hx : x ≤ 1000) :
    Calls Tryd.prog 28 #[.pointer (some ⟨g, 0, none⟩), .int .i64 x] w fun e w' => e = .returned (.tuple #[]) ∧ Mk w' B g v l s (max x (-1)) ∧ Only w w' (fun k => k = g) := by
  have h2 := hd.mc.h2
  have f2 := hd.mc.fr 2
  by_cases h0 : x < 0
  · rw [show max x (-1) = -1 by omega]
    go_enter Tryd.func28, Tryd.ntmps28
    go_wp2
    go_end0
    have ho : Only w ((w.setCell ⟨g, 2, none⟩ (.int .i64 x)).setCell ⟨g, 2, none⟩ (.int .i64 (-1))) (fun i => i = g) := ((Only.refl _ (fun i => i = g)).setCell ⟨g, _, none⟩ _ fun _ => rfl).setCell ⟨g, _, none⟩ _ fun _ => rfl
    exact ⟨rfl, ⟨(hd.mc.set2 _).set2 _, hd.own.only ho (fun k hk e => hd.ap (by rw [hk, e])), hd.ap, hd.hB, hd.hs, ⟨by omega, by omega⟩⟩, ho⟩
  · rw [show max x (-1) = x by omega]
    go_enter Tryd.func28, Tryd.ntmps28
    go_wp2
    go_end0
    have ho : Only w (w.setCell ⟨g, 2, none⟩ (.int .i64 x)) (fun i => i = g) := (Only.refl _ _).setCell _ _ fun _ => rfl
    exact ⟨rfl, ⟨hd.mc.set2 _, hd.own.only ho (fun k hk e => hd.ap (by rw [hk, e])), hd.ap, hd.hB, hd.hs, ⟨by omega, by omega⟩⟩, ho⟩

set_option maxHeartbeats 1000000 in
theorem rcut_bad {w : World} {B g : Nat} {v : Value} {l : List UInt8} {s : Nat} {c : Int} (hd : Mk w B g v l s c) (hw : wm c = false) (x : Value) :
    Calls Tryd.prog 48 #[.pointer (some ⟨g, 0, none⟩), x] w fun e w' => e = .returned (.int .i64 9) ∧ Mk w' B g v l s (dm c) ∧ Only w w' (fun k => k = g) := by
  have ht := rcall_any hd
  rw [hw] at ht
  go_enter Tryd.func48, Tryd.ntmps48
  go_wp2_with fail
  refine ht.mono ?_
  rintro e w1 ⟨rfl, hd1, ho1⟩
  go_wp2
  go_ret
  exact ⟨rfl, hd1, ho1⟩

set_option maxHeartbeats 1000000 in
theorem rcut_low {w : World} {B g : Nat} {v : Value} {l : List UInt8} {s : Nat} {c : Int} (hd : Mk w B g v l s c) (hw : wm c = true) (x : Int) (hl : l.length ≤ 1000000) (hx : x < 0) (h1 : 0 < l.length) :
    Calls Tryd.prog 48 #[.pointer (some ⟨g, 0, none⟩), .int .i64 x] w fun e w' => e = .returned (.int .i64 0) ∧ ∃ v', Mk w' B g v' (l.take 0) 0 (dm c) ∧ Only w w' (fun k => k = g) ∧ Moved w v v' := by
  obtain ⟨A0, c0, rfl, _, hlc, hcm⟩ := hd.own.forms
  have ht := rcall_any hd
  rw [hw] at ht
  go_enter Tryd.func48, Tryd.ntmps48
  go_wp2_with fail
  refine ht.mono ?_
  rintro e w1 ⟨rfl, hd1, ho1⟩
  have h0 := hd1.mc.h0
  have hB1 : B ≤ w1.heap.size := Nat.le_of_lt (Nat.lt_of_le_of_lt hd1.hB hd1.mc.lt)
  obtain ⟨_, _, e, hsg, _, _⟩ := hd1.own.forms
  injection e with e1 _ e2
  subst e1 e2
  clear ht
  go_wp2_with fail
  refine (join_any A0 none 0 0 c0 0 (l.take 0) [] _ (hsg.upto 0 (Nat.zero_le _)) (Seg.nil _ _) (by omega)).mono ?_
  rintro e w2 ⟨v2, rfl, ho2, hb2⟩
  rw [List.append_nil] at ho2
  obtain ⟨A2, c2, rfl, _, _, _⟩ := ho2.forms
  obtain ⟨m2, hm2⟩ : ∃ m2, (l.take 0).length = m2 := ⟨_, rfl⟩
  rw [hm2] at ho2 ⊢
  have HM2 : m2 = 0 := by rw [← hm2, List.length_take]; omega
  clear hm2
  have hd2 := hd1.below hb2
  have z0 := hd2.mc.h0
  have z1 := hd2.mc.h1
  have zf := hd2.mc.fr 0
  have zg := hd2.mc.fr 1
  clear h0 hsg
  go_wp2
  go_ret
  have hlt := ho2.lt
  have hgl := hd1.mc.lt
  have hon : Only w2 ((w2.setCell ⟨g, 0, none⟩ (.slice A2 m2 c2)).setCell ⟨g, 1, none⟩ (.int .i64 (m2 : Int))) (fun k => k = g) := ((Only.refl _ (fun i => i = g)).setCell ⟨g, _, none⟩ _ fun _ => rfl).setCell ⟨g, _, none⟩ _ fun _ => rfl
  subst HM2
  refine ⟨rfl, _, ⟨(hd2.mc.set0 _).set1 _, (ho2.mono hB1).only hon (fun k hk e => ?_), fun e => ?_, hd1.hB, by rw [List.length_take]; omega, hd1.hc⟩, ?_, Moved.of_ge fun k hk => ?_⟩
  · have := (hlt k hk).1
    omega
  · have := (hlt _ e).1
    omega
  · exact (ho1.trans (Only.of_below (S := fun _ => False) hb2) fun _ _ h => h.elim).trans hon fun _ _ h => h
  · have := (hlt k hk).1
    have := ho1.size
    omega

set_option maxHeartbeats 1000000 in
theorem rcut_mid {w : World} {B g : Nat} {v : Value} {l : List UInt8} {s : Nat} {c : Int} (hd : Mk w B g v l s c) (hw : wm c = true) (y : Nat) (hl : l.length ≤ 1000000) (h1 : y < l.length) :
    Calls Tryd.prog 48 #[.pointer (some ⟨g, 0, none⟩),   .int .i64 (y : Int)] w fun e w' => e = .returned (.int .i64 0) ∧ ∃ v', Mk w' B g v' (l.take y) y (dm c) ∧ Only w w' (fun k => k = g) ∧ Moved w v v' := by
  obtain ⟨A0, c0, rfl, _, hlc, hcm⟩ := hd.own.forms
  have ht := rcall_any hd
  rw [hw] at ht
  go_enter Tryd.func48, Tryd.ntmps48
  go_wp2_with fail
  refine ht.mono ?_
  rintro e w1 ⟨rfl, hd1, ho1⟩
  have h0 := hd1.mc.h0
  have hB1 : B ≤ w1.heap.size := Nat.le_of_lt (Nat.lt_of_le_of_lt hd1.hB hd1.mc.lt)
  obtain ⟨_, _, e, hsg, _, _⟩ := hd1.own.forms
  injection e with e1 _ e2
  subst e1 e2
  clear ht
  go_wp2_with fail
  refine (join_any A0 none y 0 c0 0 (l.take y) [] _ (hsg.upto y (by omega)) (Seg.nil _ _) (by omega)).mono ?_
  rintro e w2 ⟨v2, rfl, ho2, hb2⟩
  rw [List.append_nil] at ho2
  obtain ⟨A2, c2, rfl, _, _, _⟩ := ho2.forms
  obtain ⟨m2, hm2⟩ : ∃ m2, (l.take y).length = m2 := ⟨_, rfl⟩
  rw [hm2] at ho2 ⊢
  have HM2 : m2 = y := by rw [← hm2, List.length_take]; omega
  clear hm2
  have hd2 := hd1.below hb2
  have z0 := hd2.mc.h0
  have z1 := hd2.mc.h1
  have zf := hd2.mc.fr 0
  have zg := hd2.mc.fr 1
  clear h0 hsg
  go_wp2
  go_ret
  have hlt := ho2.lt
  have hgl := hd1.mc.lt
  have hon : Only w2 ((w2.setCell ⟨g, 0, none⟩ (.slice A2 m2 c2)).setCell ⟨g, 1, none⟩ (.int .i64 (m2 : Int))) (fun k => k = g) := ((Only.refl _ (fun i => i = g)).setCell ⟨g, _, none⟩ _ fun _ => rfl).setCell ⟨g, _, none⟩ _ fun _ => rfl
  subst HM2
  refine ⟨rfl, _, ⟨(hd2.mc.set0 _).set1 _, (ho2.mono hB1).only hon (fun k hk e => ?_), fun e => ?_, hd1.hB, by rw [List.length_take]; omega, hd1.hc⟩, ?_, Moved.of_ge fun k hk => ?_⟩
  · have := (hlt k hk).1
    omega
  · have := (hlt _ e).1
    omega
  · exact (ho1.trans (Only.of_below (S := fun _ => False) hb2) fun _ _ h => h.elim).trans hon fun _ _ h => h
  · have := (hlt k hk).1
    have := ho1.size
    omega

set_option maxHeartbeats 1000000 in
theorem rcut_high {w : World} {B g : Nat} {v : Value} {l : List UInt8} {s : Nat} {c : Int} (hd : Mk w B g v l s c) (hw : wm c = true) (x : Int) (hl : l.length ≤ 1000000) (hx : (x < 0 ∧ ¬ ((0 : Int) < (l.length : Int))) ∨ (0 ≤ x ∧ (l.length : Int) ≤ x)) :
    Calls Tryd.prog 48 #[.pointer (some ⟨g, 0, none⟩), .int .i64 x] w fun e w' => e = .returned (.int .i64 0) ∧ Mk w' B g v l l.length (dm c) ∧ Only w w' (fun k => k = g) := by
  obtain ⟨A0, c0, rfl, _, hlc, hcm⟩ := hd.own.forms
  have ht := rcall_any hd
  rw [hw] at ht
  rcases hx with ⟨hx, hx2⟩ | ⟨hx, hx2⟩
  all_goals
    go_enter Tryd.func48, Tryd.ntmps48
    go_wp2_with fail
    refine ht.mono ?_
    rintro e w1 ⟨rfl, hd1, ho1⟩
    have h0 := hd1.mc.h0
    have h1 := hd1.mc.h1
    have f1 := hd1.mc.fr 1
    clear ht
    go_wp2
    go_ret
    have hon : Only w1 (w1.setCell ⟨g, 1, none⟩ (.int .i64 (l.length : Int))) (fun k => k = g) := (Only.refl _ _).setCell _ _ fun _ => rfl
    exact ⟨rfl, ⟨hd1.mc.set1 _, hd1.own.only hon (fun k hk e => hd1.ap (by rw [hk, e])), hd1.ap, hd1.hB, Nat.le_refl _, hd1.hc⟩, ho1.trans hon fun _ _ h => h⟩

theorem rcut_ok {w : World} {B g : Nat} {v : Value} {l : List UInt8} {s : Nat} {c : Int} (hd : Mk w B g v l s c) (hw : wm c = true) (x : Int) (hl : l.length ≤ 1000000) :
    Calls Tryd.prog 48 #[.pointer (some ⟨g, 0, none⟩), .int .i64 x] w fun e w' => e = .returned (.int .i64 0) ∧ ∃ v', Mk w' B g v' (l.take (min x.toNat l.length)) (min x.toNat l.length) (dm c) ∧ Only w w' (fun k => k = g) ∧ Moved w v v' := by
  by_cases h : (x < 0 ∧ ¬ ((0 : Int) < (l.length : Int))) ∨ (0 ≤ x ∧ (l.length : Int) ≤ x)
  · refine (rcut_high hd hw x hl h).mono ?_
    rintro e w1 ⟨rfl, hm, ho⟩
    refine ⟨rfl, v, ?_, ho, Moved.refl _ _⟩
    rw [show min x.toNat l.length = l.length by omega, List.take_of_length_le (Nat.le_refl _)]
    exact hm
  · by_cases hx : x < 0
    · rw [show min x.toNat l.length = 0 by omega]
      exact rcut_low hd hw x hl hx (by omega)
    · obtain ⟨y, rfl⟩ := Int.eq_ofNat_of_zero_le (show 0 ≤ x by omega)
      rw [show min (y : Int).toNat l.length = y by omega]
      exact rcut_mid hd hw y hl (by omega)

set_option maxHeartbeats 1000000 in
theorem rcrash_high {w : World} {B g : Nat} {v : Value} {l : List UInt8} {s : Nat} {c : Int} (hd : Mk w B g v l s c) (x : Int) (hl : l.length ≤ 1000000) (hx : (x < 0 ∧ ¬ ((0 : Int) < (l.length : Int) - (s : Int))) ∨ (0 ≤ x ∧ (l.length : Int) - (s : Int) ≤ x)) :
    Calls Tryd.prog 30 #[.pointer (some ⟨g, 0, none⟩), .int .i64 x] w fun e w' => e = .returned (.tuple #[]) ∧ Mk w' B g v l l.length (-1) ∧ Only w w' (fun k => k = g) := by
  obtain ⟨A0, c0, rfl, _, hlc, hcm⟩ := hd.own.forms
  have h0 := hd.mc.h0
  have h1 := hd.mc.h1
  have h2 := hd.mc.h2
  have f1 := hd.mc.fr 1
  have f2 := hd.mc.fr 2
  have hs := hd.hs
  rcases hx with ⟨hx, hx2⟩ | ⟨hx, hx2⟩
  all_goals
    go_enter Tryd.func30, Tryd.ntmps30
    go_wp2
    go_quiet (fail)
    go_wp2
    go_end0
    refine ⟨rfl, ⟨((hd.drewN _).mc.set1 _).set2 _, (hd.drewN _).own.only (((Only.refl _ (fun k => k = g)).setCell _ _ fun _ => rfl).setCell _ _ fun _ => rfl) (fun k hk e => hd.ap (by rw [hk, e])), hd.ap, hd.hB, Nat.le_refl _, by omega, by omega⟩, (((Only.refl _ (fun k => k = g)).drewN _).setCell _ _ fun _ => rfl).setCell _ _ fun _ => rfl⟩

end Go.Proofs.YtkmcnkonkalfkaaDoor
