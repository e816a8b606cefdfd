/-
  Texts of one claim, joined.
-/
import Derived.Test.YtpbjianhkjjgkaaDoorZ14
import Derived.Test.YtpbjianhkjjgkaaDoorZ0A
import Derived.Test.YtpbjianhkjjgkaaDoorZ09
namespace Go.Proofs.YtpbjianhkjjgkaaDoor
open Go.RowKit

theorem ptk_rest (s : Rst) (n : Nat) : (ptk s n).2.1.length ≤ s.1.length := by
  unfold ptk
  split
  · exact Nat.le_refl _
  · split
    · exact Nat.le_refl _
    · simp
theorem pnb_rest (s : Rst) (z m : Nat) : (pnb s z m).2.1.length ≤ s.1.length := by
  have := ptk_rest s z
  unfold pnb
  split <;> exact this
theorem ptx_rest (s : Rst) : (ptx s).2.1.length ≤ s.1.length := Nat.le_trans (ptk_rest _ _) (pnb_rest _ _ _)
theorem psd_rest (s : Rst) (k : Nat) : (psd s k).2.1.length ≤ s.1.length := by
  induction k with
  | zero => exact Nat.le_refl _
  | succ k ih => exact Nat.le_trans (ptk_rest _ _) ih
theorem psd_len (s : Rst) (k : Nat) : (psd s k).1.length = k := by
  induction k with
  | zero => rfl
  | succ k ih => simp [psd, ih]

def NbP (w : World) (g n : Nat) (s : Rst) (en : Ending) (w' : World) : Prop := en = .returned (.int .i64 (n : Int)) ∧ Rp w' g s.1 s.2 ∧ Only w w' (fun k => k = g)

set_option maxHeartbeats 4000000 in
theorem pnumber_any (g : Nat) (l : List UInt8) (e z m : Nat) (w : World) (hr : Rp w g l e) (hz : z ≤ 2) (_ : m ≤ 1000000) (hl : l.length ≤ 1099511627776) :
    Calls Tryd.prog 128 #[.pointer (some ⟨g, 0, none⟩), .int .i64 (z : Int), .int .i64 (m : Int)] w (NbP w g (pnb (l, e) z m).1 (pnb (l, e) z m).2) := by
  have ht := ptake_any g l e z w hr (by omega) hl
  have hlen := ptk_len (l, e) z
  unfold pnb
  generalize ptk (l, e) z = X at *
  obtain ⟨t, s⟩ := X
  dsimp only at *
  have hlen2 : t.length ≤ 2 := by omega
  clear hlen
  obtain ⟨n, hn⟩ : ∃ n, t.length = n := ⟨_, rfl⟩
  unfold TkP at ht
  rw [hn] at ht hlen2
  have HN := Lib.hid hn
  clear hn
  obtain ⟨Z, hZ⟩ : ∃ Z : Nat × Rst, (if m < rdN t then (0, (s.1, 2)) else (rdN t, s)) = Z := ⟨_, rfl⟩
  have HZ := Lib.hid hZ
  rw [hZ]
  clear hZ
  go_enter Tryd.func128, Tryd.ntmps128
  go_wp2_with (go_at_call 139; refine ht.mono ?_; rintro _ w1 ⟨A, c, rfl, hs, hc, hcm, _, hr1, ho1⟩)
  clear ht
  go_loop [7, 9, 14] (fun x b i => ∃ k : Nat, k ≤ n ∧ i = .int .i64 k ∧ x = .int .i64 (rdN (t.take k))) (fun _ _ i => n - (intOf i).toNat)
  case atStart => exact ⟨0, by omega, rfl, rfl⟩
  case round =>
    obtain ⟨k, hk, rfl, rfl⟩ := hrel
    by_cases hlt : k < n
    · obtain ⟨gx, o, rfl, hc⟩ := hs.at_ hlt
      have hk8 : (t.take k).length ≤ 2 := by rw [List.length_take]; omega
      have hlt7 := rdN_lt' (t.take k) 2 hk8
      have hts : rdN (t.take (k + 1)) = rdN (t.take k) * 256 + (t[k]'(by rw [hs.1]; exact hlt)).toNat := by
        rw [List.take_succ_eq_append_getElem (by rw [hs.1]; exact hlt), rdN_snoc]
      have HS := Lib.hid hts
      have HL := Lib.hid hlt7
      clear hts hlt7
      go_wp2
      go_round
      case rel =>
        refine ⟨k + 1, by omega, by go_num, ?_⟩
        rw [HS.out, ← i64_or_high _ _ (by have := HL.out; omega) (byte_lt _)]
      case measure => simp [intOf]; omega
    · have e : t.take k = t := List.take_of_length_le (by rw [HN.out]; omega)
      rw [e]
      have h1 := hr1.at1
      have f1 := hr1.fr 1
      by_cases hmr : m < rdN t
      · have hZ := HZ.out
        rw [if_pos hmr] at hZ
        subst hZ
        have hmr' : (m : Int) < (rdN t : Int) := by omega
        go_wp2
        go_ret
        exact ⟨rfl, hr1.setE 2, ho1.setCell _ _ fun _ => rfl⟩
      · have hZ := HZ.out
        rw [if_neg hmr] at hZ
        subst hZ
        have hmr' : ¬ (m : Int) < (rdN t : Int) := by omega
        go_wp2
        go_ret
        exact ⟨rfl, hr1, ho1⟩

set_option maxHeartbeats 4000000 in
theorem ptext_any (g : Nat) (l : List UInt8) (e : Nat) (w : World) (hr : Rp w g l e) (hl : l.length ≤ 1099511627776) :
    Calls Tryd.prog 129 #[.pointer (some ⟨g, 0, none⟩)] w (TkP w g (ptx (l, e)).1 (ptx (l, e)).2) := by
  have ht := pnumber_any g l e 2 4000 w hr (by omega) (by omega) hl
  have h2 := pnb_rest (l, e) 2 4000
  have h3 := pnb_le (l, e) 2 4000
  unfold ptx
  generalize pnb (l, e) 2 4000 = X at *
  obtain ⟨n, l2, e2⟩ := X
  dsimp only at *
  go_enter Tryd.func129, Tryd.ntmps129
  go_wp2_with (go_at_call 128; refine ht.mono ?_; rintro _ w1 ⟨rfl, hr1, ho1⟩)
  clear ht
  refine (ptake_any g l2 e2 n _ hr1 (by omega) (by omega)).mono ?_
  rintro _ w2 ⟨A, c, rfl, hs, hc, hcm, hA, hr2, ho2⟩
  go_wp2
  go_ret
  exact ⟨A, c, rfl, hs, hc, hcm, hA, hr2, ho1.trans ho2 fun _ _ h => h⟩

set_option maxHeartbeats 4000000 in
theorem pend_any (g : Nat) (l : List UInt8) (e : Nat) (w : World) (hr : Rp w g l e) :
    Calls Tryd.prog 100 #[.pointer (some ⟨g, 0, none⟩)] w fun en w' => en = .returned (.tuple #[]) ∧ Rp w' g (pend (l, e)).1 (pend (l, e)).2 ∧ Only w w' (fun k => k = g) := by
  obtain ⟨A, c, h0, h1, h2, h3, h4⟩ := hr.ex
  have ha := hr.at1
  have f1 := hr.fr 1
  by_cases he : e = 0
  · subst he
    by_cases hlt : 0 < l.length
    · rw [show pend (l, 0) = (l, 2) by unfold pend; rw [if_pos ⟨rfl, hlt⟩]]
      have hlt' : (0 : Int) < (l.length : Int) := by omega
      go_enter Tryd.func100, Tryd.ntmps100
      go_wp2
      go_end0
      exact ⟨rfl, hr.setE 2, (Only.refl w (fun k => k = g)).setCell _ _ fun _ => rfl⟩
    · rw [show pend (l, 0) = (l, 0) by unfold pend; rw [if_neg (fun h => hlt h.2)]]
      have hlt' : ¬ (0 : Int) < (l.length : Int) := by omega
      go_enter Tryd.func100, Tryd.ntmps100
      go_wp2
      go_end0
      exact ⟨rfl, hr, Only.refl _ _⟩
  · rw [show pend (l, e) = (l, e) by unfold pend; rw [if_neg (fun h => he h.1)]]
    have hne : ((e : Int) == 0) = false := by simp; omega
    go_enter Tryd.func100, Tryd.ntmps100
    go_wp2
    go_end0
    exact ⟨rfl, hr, Only.refl _ _⟩

end Go.Proofs.YtpbjianhkjjgkaaDoor
/-
  The reader of proofs: number, text, sides, end.
-/
namespace Go.Proofs.YtpbjianhkjjgkaaDoor
open Go.RowKit

theorem Rp.only {w w' : World} {S : Nat → Prop} {g : Nat} {l : List UInt8} {e : Nat} (h : Rp w g l e) (hw : Only w w' S) (hS : ∀ k, k ≤ g → ¬ S k) : Rp w' g l e := by
  obtain ⟨A, c, h0, h1, h2, h3, h4⟩ := h.ex
  exact ⟨⟨A, c, hw.cell h0 (hS g (Nat.le_refl _)), h1.only hw (fun hn a ha => hS _ (Nat.le_of_lt (h4 hn a ha))), h2, h3, h4⟩, hw.cell h.at1 (hS g (Nat.le_refl _)), fun j => (hw.froz h.at1 (hS g (Nat.le_refl _)) ⟨g, j, none⟩ rfl).trans (h.fr j)⟩
theorem Only.alloc_ (w : World) (o : Obj) (S : Nat → Prop) : Only w (w.alloc o) S := (Only.refl w S).alloc o

set_option maxHeartbeats 4000000 in
theorem psides_any (g : Nat) (l : List UInt8) (e : Nat) (w : World) (hr : Rp w g l e) (hl : l.length ≤ 1099511627776) :
    Calls Tryd.prog 127 #[.pointer (some ⟨g, 0, none⟩)] w fun en w' => ∃ v, en = .returned v ∧ OwnS w' w.heap.size 9 v (psides (l, e)).1 ∧ Rp w' g (psides (l, e)).2.1 (psides (l, e)).2.2 ∧ Only w w' (fun k => k = g) := by
  have ht := pnumber_any g l e 2 256 w hr (by omega) (by omega) hl
  have h2 := pnb_rest (l, e) 2 256
  have h3 := pnb_le (l, e) 2 256
  have hgw := hr.lt
  unfold psides
  generalize pnb (l, e) 2 256 = X at *
  obtain ⟨n, s⟩ := X
  dsimp only at *
  go_enter Tryd.func127, Tryd.ntmps127
  go_wp2_with (go_at_call 128; refine ht.mono ?_; rintro _ w1 ⟨rfl, hr1, ho1⟩)
  clear ht
  have hz1 := ho1.size
  go_loopw [3, 6] (fun v i w' => ∃ k : Nat, k ≤ n ∧ i = .int .i64 k ∧ OwnS w' w.heap.size 9 v (psd s k).1 ∧ Rp w' g (psd s k).2.1 (psd s k).2.2 ∧ Only w w' (fun k => k = g)) (fun _ i _ => n - (intOf i).toNat)
  case atStart => exact ⟨0, by omega, rfl, OwnG.nil _ _ _, hr1, ho1⟩
  case round =>
    clear hr1 ho1 hz1
    obtain ⟨k, hk, rfl, hv, hx, hoo⟩ := hrel
    by_cases hlt : k < n
    · have hrest := psd_rest s k
      have hdl := psd_len s k
      have hsucc : psd s (k + 1) = ((psd s k).1 ++ [⟨(ptk (psd s k).2 32).1.toArray⟩], (ptk (psd s k).2 32).2) := rfl
      have HSU := Lib.hid hsucc
      clear hsucc
      generalize psd s k = D at *
      obtain ⟨ds, l2, e2⟩ := D
      dsimp only at *
      have HDL := Lib.hid hdl
      obtain ⟨A, c, rfl, hsv, _, _⟩ := hv.forms
      have ht := ptake_any g l2 e2 32 _ hx (by omega) (by omega)
      have hzz := hoo.size
      rename World => wl
      go_wp2_with fail
      refine ht.mono ?_
      rintro _ w2 ⟨B, d, rfl, hs2, _, _, _, hr2, ho2⟩
      clear ht
      have hv2 : OwnS w2 w.heap.size 9 (.slice A ds.length c) ds := hv.only ho2 (fun i hi e => by have := (hv.lt i hi).1; omega)
      have hoo2 : Only w w2 (fun k => k = g) := hoo.trans ho2 fun _ _ h => h
      have hz2 := hoo2.size
      have kc := run_string_seg (P := Tryd.prog) w2 29 9 5 bt Tryd.underlying9 B _ d _ hs2
      have hr3 := hr2.only (Only.alloc_ w2 (.cells #[.string ⟨(ptk (l2, e2) 32).1.toArray⟩] 9) (fun _ => False)) (fun _ _ h => h)
      have hv3 := hv2.alloc (.cells #[.string ⟨(ptk (l2, e2) 32).1.toArray⟩] 9)
      have hoo3 := hoo2.alloc (.cells #[.string ⟨(ptk (l2, e2) 32).1.toArray⟩] 9)
      generalize ptk (l2, e2) 32 = Z at *
      obtain ⟨t, s2⟩ := Z
      dsimp only at *
      go_wp2_with (at_builtin
                   refine wpList_append_G _ rfl (.tmp 8) (.tmp 12) _ _ _ _ strT rfl w.heap.size (.slice A ds.length c) ds rfl hv3 _ 1 1 [⟨t.toArray⟩] rfl (SegG.newAt _ _ _ _ _ _ rfl rfl rfl) (by rw [HDL.out]; omega) (by simp; omega) ?_
                   intro v4 w4 hv4 hg4 hat4)
      go_roundw
      case rel =>
        have hown : ∀ k, (Value.slice A ds.length c).ownBlock = some k → w.heap.size ≤ k := fun k hk => (hv3.lt k hk).1
        refine ⟨k + 1, by omega, by go_num, by rw [HSU.out]; exact hv4, ?_, ?_⟩
        · rw [HSU.out]
          exact hr3.only (Only.of_grown (S := fun k => w.heap.size ≤ k) hg4 (fun k hk => hown k hk)) (fun k hk h => by omega)
        · refine hoo3.trans (Only.of_grown (S := fun k => w.heap.size ≤ k) hg4 (fun k hk => hown k hk)) (fun i hi h => by omega)
      case measure => simp [intOf]; omega
    · obtain rfl : n = k := by omega
      go_wp2
      go_ret
      exact ⟨_, rfl, hv, hx, hoo⟩

/-- A box of four cells. -/
structure Bx (w : World) (b : Nat) (a0 a1 a2 a3 : Value) : Prop where
  c0 : w.cell? ⟨b, 0, none⟩ = some a0
  c1 : w.cell? ⟨b, 1, none⟩ = some a1
  c2 : w.cell? ⟨b, 2, none⟩ = some a2
  c3 : w.cell? ⟨b, 3, none⟩ = some a3
  fr : ∀ j, w.frozen? ⟨b, j, none⟩ = false
section
variable {w w' : World} {S : Nat → Prop} {b : Nat} {a0 a1 a2 a3 : Value}
theorem Bx.lt (h : Bx w b a0 a1 a2 a3) : b < w.heap.size := World.block_lt_of_cell? w _ h.c0
theorem Bx.only (h : Bx w b a0 a1 a2 a3) (hw : Only w w' S) (hS : ¬ S b) : Bx w' b a0 a1 a2 a3 :=
  ⟨hw.cell h.c0 hS, hw.cell h.c1 hS, hw.cell h.c2 hS, hw.cell h.c3 hS, fun j => (hw.froz h.c0 hS ⟨b, j, none⟩ rfl).trans (h.fr j)⟩
theorem Bx.below (h : Bx w b a0 a1 a2 a3) (hb : Below w.heap.size w w') : Bx w' b a0 a1 a2 a3 := h.only (Only.of_below (S := fun _ => False) hb) id
theorem Bx.new (w : World) (a0 a1 a2 a3 : Value) (t : TypeId) : Bx (w.alloc (.cells #[a0, a1, a2, a3] t)) w.heap.size a0 a1 a2 a3 := ⟨by simp, by simp, by simp, by simp, fun j => by simp⟩
theorem Bx.set0 (h : Bx w b a0 a1 a2 a3) (u : Value) : Bx (w.setCell ⟨b, 0, none⟩ u) b u a1 a2 a3 := by
  have n1 : (⟨b, 0, none⟩ : Addr) ≠ ⟨b, 1, none⟩ := by simp
  have n2 : (⟨b, 0, none⟩ : Addr) ≠ ⟨b, 2, none⟩ := by simp
  have n3 : (⟨b, 0, none⟩ : Addr) ≠ ⟨b, 3, none⟩ := by simp
  exact ⟨World.cell?_setCell_same _ _ _ h.c0, (World.cell?_setCell_other (h := n1) ..).trans h.c1, (World.cell?_setCell_other (h := n2) ..).trans h.c2, (World.cell?_setCell_other (h := n3) ..).trans h.c3, fun j => by rw [World.frozen?_setCell]; exact h.fr j⟩
theorem Bx.set1 (h : Bx w b a0 a1 a2 a3) (u : Value) : Bx (w.setCell ⟨b, 1, none⟩ u) b a0 u a2 a3 := by
  have n1 : (⟨b, 1, none⟩ : Addr) ≠ ⟨b, 0, none⟩ := by simp
  have n2 : (⟨b, 1, none⟩ : Addr) ≠ ⟨b, 2, none⟩ := by simp
  have n3 : (⟨b, 1, none⟩ : Addr) ≠ ⟨b, 3, none⟩ := by simp
  exact ⟨(World.cell?_setCell_other (h := n1) ..).trans h.c0, World.cell?_setCell_same _ _ _ h.c1, (World.cell?_setCell_other (h := n2) ..).trans h.c2, (World.cell?_setCell_other (h := n3) ..).trans h.c3, fun j => by rw [World.frozen?_setCell]; exact h.fr j⟩
theorem Bx.set2 (h : Bx w b a0 a1 a2 a3) (u : Value) : Bx (w.setCell ⟨b, 2, none⟩ u) b a0 a1 u a3 := by
  have n1 : (⟨b, 2, none⟩ : Addr) ≠ ⟨b, 0, none⟩ := by simp
  have n2 : (⟨b, 2, none⟩ : Addr) ≠ ⟨b, 1, none⟩ := by simp
  have n3 : (⟨b, 2, none⟩ : Addr) ≠ ⟨b, 3, none⟩ := by simp
  exact ⟨(World.cell?_setCell_other (h := n1) ..).trans h.c0, (World.cell?_setCell_other (h := n2) ..).trans h.c1, World.cell?_setCell_same _ _ _ h.c2, (World.cell?_setCell_other (h := n3) ..).trans h.c3, fun j => by rw [World.frozen?_setCell]; exact h.fr j⟩
theorem Bx.set3 (h : Bx w b a0 a1 a2 a3) (u : Value) : Bx (w.setCell ⟨b, 3, none⟩ u) b a0 a1 a2 u := by
  have n1 : (⟨b, 3, none⟩ : Addr) ≠ ⟨b, 0, none⟩ := by simp
  have n2 : (⟨b, 3, none⟩ : Addr) ≠ ⟨b, 1, none⟩ := by simp
  have n3 : (⟨b, 3, none⟩ : Addr) ≠ ⟨b, 2, none⟩ := by simp
  exact ⟨(World.cell?_setCell_other (h := n1) ..).trans h.c0, (World.cell?_setCell_other (h := n2) ..).trans h.c1, (World.cell?_setCell_other (h := n3) ..).trans h.c2, World.cell?_setCell_same _ _ _ h.c3, fun j => by rw [World.frozen?_setCell]; exact h.fr j⟩
end
theorem Bx.set4 {w : World} {b : Nat} {z0 z1 z2 z3 : Value} (h : Bx w b z0 z1 z2 z3) (a0 a1 a2 a3 : Value) :
    Bx ((((w.setCell ⟨b, 0, none⟩ a0).setCell ⟨b, 1, none⟩ a1).setCell ⟨b, 2, none⟩ a2).setCell ⟨b, 3, none⟩ a3) b a0 a1 a2 a3 ∧
      Only w ((((w.setCell ⟨b, 0, none⟩ a0).setCell ⟨b, 1, none⟩ a1).setCell ⟨b, 2, none⟩ a2).setCell ⟨b, 3, none⟩ a3) (fun k => k = b) :=
  ⟨(((h.set0 a0).set1 a1).set2 a2).set3 a3, ((((Only.refl w (fun k => k = b)).setCell ⟨b, 0, none⟩ _ fun _ => rfl).setCell ⟨b, 1, none⟩ _ fun _ => rfl).setCell ⟨b, 2, none⟩ _ fun _ => rfl).setCell ⟨b, 3, none⟩ _ fun _ => rfl⟩
theorem OwnG.only_lo {α : Type} {Y : Lay α} {w w' : World} {S : Nat → Prop} {base : Nat} {e : TypeId} {v : Value} {l : List α} (h : OwnG Y w base e v l) (hw : Only w w' S) (hS : ∀ k, base ≤ k → k < w.heap.size → ¬ S k) : OwnG Y w' base e v l :=
  h.only hw fun k hk => hS k (h.lt k hk).1 (h.lt k hk).2
theorem Own.only_lo {w w' : World} {S : Nat → Prop} {base : Nat} {e : TypeId} {v : Value} {l : List UInt8} (h : Own w base e v l) (hw : Only w w' S) (hS : ∀ k, base ≤ k → k < w.heap.size → ¬ S k) : Own w' base e v l :=
  h.only hw fun k hk => hS k (h.lt k hk).1 (h.lt k hk).2

/-- A proof as the program's calls answer it, its rows the call's own. -/
def PfOwn (w : World) (base : Nat) (v : Value) (p : Pf) : Prop :=
  ∃ v1 v2, v = .agg #[v1, .int .u8 (p.k : Int), .string p.key, v2] ∧ OwnS w base 9 v1 p.side ∧ Own w base 5 v2 p.row

set_option maxHeartbeats 8000000 in
theorem pproof_any (g : Nat) (l : List UInt8) (e : Nat) (w : World) (hr : Rp w g l e) (hl : l.length ≤ 1000000) :
    Calls Tryd.prog 99 #[.pointer (some ⟨g, 0, none⟩)] w fun en w' => ∃ v, en = .returned v ∧ PfOwn w' w.heap.size v (ppf (l, e)).1 ∧ Rp w' g (ppf (l, e)).2.1 (ppf (l, e)).2.2 ∧ Only w w' (fun k => k = g) := by
  have hgw := hr.lt
  have hrs : (psides (l, e)).2.1.length ≤ l.length := Nat.le_trans (psd_rest _ _) (pnb_rest _ _ _)
  obtain ⟨Z, hZ⟩ : ∃ Z, ppf (l, e) = Z := ⟨_, rfl⟩
  unfold ppf at hZ
  rw [show ppf (l, e) = Z from hZ]
  have hs := fun W (h : Only w W (fun _ => False)) => psides_any g l e W (hr.only h fun _ _ => id) (by omega)
  generalize psides (l, e) = X at *
  obtain ⟨ds, l1, e1⟩ := X
  dsimp only at *
  have HZ := Lib.hid hZ
  have HS := Lib.hid hs
  clear hZ hs
  go_enter Tryd.func99, Tryd.ntmps99
  go_wp2_with fail
  refine (HS.out _ (Only.alloc_ _ _ _)).mono ?_
  rintro _ w1 ⟨v1, rfl, hv1, hr1, ho1⟩
  obtain ⟨A1, c1, rfl, _, _, _⟩ := hv1.forms
  have hzw1 := ho1.size
  simp at hzw1
  have hb2 : Bx w1 w.heap.size (.slice none 0 0) (.int .u8 0) (.string ⟨#[]⟩) (.slice none 0 0) := (Bx.new w _ _ _ _ _).only ho1 (by omega)
  have hoo1 : Only w w1 (fun k => k = g) := (Only.alloc_ w _ _).trans ho1 fun _ _ h => h
  have hv1' : OwnS w1 (w.heap.size + 1) 9 (.slice A1 ds.length c1) ds := by simpa using hv1
  clear hv1 ho1 HS
  go_wp2_with fail
  have hb3 := Bx.new w1 (.slice A1 ds.length c1) (.int .u8 0) (.string ⟨#[]⟩) (.slice none 0 0) 65
  have hb2a := hb2.only (Only.alloc_ w1 (.cells #[.slice A1 ds.length c1, .int .u8 0, .string ⟨#[]⟩, .slice none 0 0] 65) (fun _ => False)) id
  have hlt1 : ∀ k, (Value.slice A1 ds.length c1).ownBlock = some k → w.heap.size + 1 ≤ k ∧ k < w1.heap.size := fun k hk => hv1'.lt k hk
  have hv1a := hv1'.alloc (.cells #[.slice A1 ds.length c1, .int .u8 0, .string ⟨#[]⟩, .slice none 0 0] 65)
  have hr1a := hr1.only (Only.alloc_ w1 (.cells #[.slice A1 ds.length c1, .int .u8 0, .string ⟨#[]⟩, .slice none 0 0] 65) (fun _ => False)) (fun _ _ => id)
  have hooa := hoo1.alloc (.cells #[.slice A1 ds.length c1, .int .u8 0, .string ⟨#[]⟩, .slice none 0 0] 65)
  have hnb := pnumber_any g l1 e1 1 2 _ hr1a (by omega) (by omega) (by omega)
  have hnr := pnb_rest (l1, e1) 1 2
  have hnm := pnb_le (l1, e1) 1 2
  clear hb2 hv1' hr1 hoo1
  generalize w1.alloc (.cells #[.slice A1 ds.length c1, .int .u8 0, .string ⟨#[]⟩, .slice none 0 0] 65) = wa at *
  generalize w1.heap.size = b3 at *
  generalize pnb (l1, e1) 1 2 = Y at *
  obtain ⟨kk, l2, e2⟩ := Y
  dsimp only at *
  refine hnb.mono ?_
  rintro _ w2 ⟨rfl, hr2, ho2⟩
  have hb3' := hb3.only ho2 (by omega)
  have hb2' := hb2a.only ho2 (by omega)
  have hv2 := hv1a.only ho2 (fun k hk e => by have := hlt1 k hk; omega)
  have hoo2 := hooa.trans ho2 fun _ _ h => h
  clear hnb hb3 hb2a hv1a hooa hr1a ho2
  have hk3 : kk = 0 ∨ kk = 1 ∨ kk = 2 := by omega
  rcases hk3 with rfl | rfl | rfl
  · obtain ⟨x0, x1, x2, x3, xf⟩ := hb3'
    have xf1 := xf 1
    obtain ⟨y0, y1, y2, y3, yf⟩ := hb2'
    have yf0 := yf 0
    have yf1 := yf 1
    have yf2 := yf 2
    have yf3 := yf 3
    have hb3 : Bx w2 b3 _ _ _ _ := ⟨x0, x1, x2, x3, xf⟩
    have hb2 : Bx w2 w.heap.size _ _ _ _ := ⟨y0, y1, y2, y3, yf⟩
    clear xf yf
    have hZ := HZ.out
    rw [if_neg (by omega), if_neg (by omega)] at hZ
    subst hZ
    have hs1 := only_setB w2 ⟨b3, 1, none⟩ (.int .u8 0)
    have hq2 := hb2.only hs1 (by show ¬ w.heap.size = b3; omega)
    obtain ⟨hf, hfo⟩ := hq2.set4 (.slice A1 ds.length c1) (.int .u8 0) (.string ⟨#[]⟩) (.slice none 0 0)
    have hof : Only w2 _ (fun k => k = w.heap.size ∨ k = b3) := (hs1.mono (fun _ _ h => .inr h)).trans hfo (fun _ _ h => .inl h)
    go_wp2
    refine bodyPost_ret (v := .agg #[.slice A1 ds.length c1, .int .u8 0, .string ⟨#[]⟩, .slice none 0 0]) (by simp [results, Tryd.results99, go_sem, hf.c0, hf.c1, hf.c2, hf.c3]) rfl ⟨_, rfl, ⟨_, _, rfl, ?_, Own.nil _ _ _⟩, ?_, ?_⟩
    · exact (hv2.only hof (fun k hk e => by have := hlt1 k hk; omega)).mono (by omega)
    · exact hr2.only hof (fun k hk e => by omega)
    · exact hoo2.trans hof (fun i hi e => by omega)
  · obtain ⟨x0, x1, x2, x3, xf⟩ := hb3'
    have xf1 := xf 1
    obtain ⟨y0, y1, y2, y3, yf⟩ := hb2'
    have hb3 : Bx w2 b3 _ _ _ _ := ⟨x0, x1, x2, x3, xf⟩
    have hb2 : Bx w2 w.heap.size _ _ _ _ := ⟨y0, y1, y2, y3, yf⟩
    clear xf yf
    have hs1 := only_setB w2 ⟨b3, 1, none⟩ (.int .u8 1)
    have hq2 := hb2.only hs1 (by show ¬ w.heap.size = b3; omega)
    have hq3 := hb3.set1 (.int .u8 1)
    have hqv := hv2.only hs1 (fun k hk (e : k = b3) => by have := hlt1 k hk; omega)
    have hqr := hr2.only hs1 (fun k hk (e : k = b3) => by omega)
    have hqo := hoo2.trans hs1 (fun i hi (e : i = b3) => by omega)
    clear hb3 hb2 hs1 hr2 hoo2 hv2
    go_wp2_with fail
    clear x0 x1 x2 x3 xf1 y0 y1 y2 y3
    generalize w2.setCell ⟨b3, 1, none⟩ (.int .u8 1) = wb at *
    have hsz3 := hqo.size
    have htx := ptext_any g l2 e2 wb hqr (by omega)
    have htl := ptx_rest (l2, e2)
    have htn : (ptx (l2, e2)).1.length ≤ 4000 := Nat.le_trans (ptk_len _ _) (pnb_le _ _ _)
    generalize ptx (l2, e2) = U at *
    obtain ⟨t3, l3, e3⟩ := U
    dsimp only at *
    refine htx.mono ?_
    rintro _ w3 ⟨A3, c3, rfl, hs3, hc3, hcm3, _, hr3, ho3⟩
    clear htx
    have hb3 := hq3.only ho3 (by omega)
    have hb2 := hq2.only ho3 (by omega)
    have hv3 := hqv.only ho3 (fun k hk e => by have := hlt1 k hk; omega)
    have hoo3 := hqo.trans ho3 fun _ _ h => h
    clear hq2 hq3 hqv hqr hqo ho3 hsz3
    have hoz := hb3.lt
    go_wp2_with fail
    refine (clone_any A3 _ c3 t3 _ hs3 (by omega)).mono ?_
    rintro _ w7 ⟨v7, rfl, ho7, hbl⟩
    have hz7 := hoo3.size
    have hon : Only w3 w7 (fun _ => False) := Only.of_below hbl
    have hb3 := hb3.only hon id
    have hb2 := hb2.only hon id
    have hv7 := hv3.only hon (fun _ _ => id)
    have hr7 := hr3.only hon (fun _ _ => id)
    have hoo7 := hoo3.trans hon fun _ _ h => h.elim
    have hlt7 : ∀ k, v7.ownBlock = some k → b3 < k := fun k hk => by
      have := (ho7.lt k hk).1
      have := hoz
      omega
    clear hbl hon hv3 hr3 hoo3 hs3
    obtain ⟨A7, c7, rfl, _, _, _⟩ := ho7.forms
    obtain ⟨x0, x1, x2, x3, xf⟩ := hb3
    have xf3 := xf 3
    obtain ⟨y0, y1, y2, y3, yf⟩ := hb2
    have yf0 := yf 0
    have yf1 := yf 1
    have yf2 := yf 2
    have yf3 := yf 3
    have hb2 : Bx w7 w.heap.size _ _ _ _ := ⟨y0, y1, y2, y3, yf⟩
    clear xf yf
    have hs1 := only_setB w7 ⟨b3, 3, none⟩ (.slice A7 t3.length c7)
    have hq2 := hb2.only hs1 (by show ¬ w.heap.size = b3; omega)
    obtain ⟨hf, hfo⟩ := hq2.set4 (.slice A1 ds.length c1) (.int .u8 1) (.string ⟨#[]⟩) (.slice A7 t3.length c7)
    have hZ := HZ.out
    rw [if_neg (by omega), if_pos (by trivial)] at hZ
    subst hZ
    have hof : Only w7 _ (fun k => k = w.heap.size ∨ k = b3) := (hs1.mono (fun _ _ h => .inr h)).trans hfo (fun _ _ h => .inl h)
    go_wp2
    refine bodyPost_ret (v := .agg #[.slice A1 ds.length c1, .int .u8 1, .string ⟨#[]⟩, .slice A7 t3.length c7]) (by simp [results, Tryd.results99, go_sem, hf.c0, hf.c1, hf.c2, hf.c3]) rfl ⟨_, rfl, ⟨_, _, rfl, ?_, ?_⟩, ?_, ?_⟩
    · exact (hv7.only hof (fun k hk e => by have := hlt1 k hk; omega)).mono (by omega)
    · exact (ho7.only hof (fun k hk e => by have := hlt7 k hk; omega)).mono (by omega)
    · exact hr7.only hof (fun k hk e => by omega)
    · exact hoo7.trans hof (fun i hi e => by omega)
  · obtain ⟨x0, x1, x2, x3, xf⟩ := hb3'
    have xf1 := xf 1
    obtain ⟨y0, y1, y2, y3, yf⟩ := hb2'
    have hb3 : Bx w2 b3 _ _ _ _ := ⟨x0, x1, x2, x3, xf⟩
    have hb2 : Bx w2 w.heap.size _ _ _ _ := ⟨y0, y1, y2, y3, yf⟩
    clear xf yf
    have hs1 := only_setB w2 ⟨b3, 1, none⟩ (.int .u8 2)
    have hq2 := hb2.only hs1 (by show ¬ w.heap.size = b3; omega)
    have hq3 := hb3.set1 (.int .u8 2)
    have hqv := hv2.only hs1 (fun k hk (e : k = b3) => by have := hlt1 k hk; omega)
    have hqr := hr2.only hs1 (fun k hk (e : k = b3) => by omega)
    have hqo := hoo2.trans hs1 (fun i hi (e : i = b3) => by omega)
    clear hb3 hb2 hs1 hr2 hoo2 hv2
    go_wp2_with fail
    clear x0 x1 x2 x3 xf1 y0 y1 y2 y3
    generalize w2.setCell ⟨b3, 1, none⟩ (.int .u8 2) = wb at *
    have hsz4 := hqo.size
    have htx := ptext_any g l2 e2 wb hqr (by omega)
    have htl := ptx_rest (l2, e2)
    have htn : (ptx (l2, e2)).1.length ≤ 4000 := Nat.le_trans (ptk_len _ _) (pnb_le _ _ _)
    generalize ptx (l2, e2) = U at *
    obtain ⟨t4, l4, e4⟩ := U
    dsimp only at *
    refine htx.mono ?_
    rintro _ w4 ⟨A4, c4, rfl, hs4, hc4, hcm4, _, hr4, ho4⟩
    clear htx
    have hb3 := hq3.only ho4 (by omega)
    have hb2 := hq2.only ho4 (by omega)
    have hv4 := hqv.only ho4 (fun k hk e => by have := hlt1 k hk; omega)
    have hoo4 := hqo.trans ho4 fun _ _ h => h
    clear hq2 hq3 hqv hqr hqo ho4 hsz4
    obtain ⟨x0, x1, x2, x3, xf⟩ := hb3
    have xf2 := xf 2
    have hb3 : Bx w4 b3 _ _ _ _ := ⟨x0, x1, x2, x3, xf⟩
    clear xf
    have kc := run_string_seg (P := Tryd.prog) w4 29 9 5 bt Tryd.underlying9 A4 _ c4 _ hs4
    obtain ⟨key, hkey⟩ : ∃ key : ByteArray, (⟨t4.toArray⟩ : ByteArray) = key := ⟨_, rfl⟩
    rw [hkey] at kc
    have hs1 := only_setB w4 ⟨b3, 2, none⟩ (.string key)
    have hq2 := hb2.only hs1 (by show ¬ w.heap.size = b3; omega)
    have hq3 := hb3.set2 (.string key)
    have hqv := hv4.only hs1 (fun k hk (e : k = b3) => by have := hlt1 k hk; omega)
    have hqr := hr4.only hs1 (fun k hk (e : k = b3) => by omega)
    have hqo := hoo4.trans hs1 (fun i hi (e : i = b3) => by omega)
    have hoz4 : b3 < w4.heap.size := hb3.lt
    clear hb3 hb2 hs1 hr4 hoo4 hv4
    go_wp2_with fail
    clear x0 x1 x2 x3 xf2 kc hs4
    generalize w4.setCell ⟨b3, 2, none⟩ (.string key) = wb2 at *
    have hsz5 := hqo.size
    have htx := ptext_any g l4 e4 wb2 hqr (by omega)
    have htl := ptx_rest (l4, e4)
    have htn : (ptx (l4, e4)).1.length ≤ 4000 := Nat.le_trans (ptk_len _ _) (pnb_le _ _ _)
    generalize ptx (l4, e4) = U at *
    obtain ⟨t5, l5, e5⟩ := U
    dsimp only at *
    refine htx.mono ?_
    rintro _ w5 ⟨A5, c5, rfl, hs5, hc5, hcm5, _, hr5, ho5⟩
    clear htx
    have hb3 := hq3.only ho5 (by omega)
    have hb2 := hq2.only ho5 (by omega)
    have hv5 := hqv.only ho5 (fun k hk e => by have := hlt1 k hk; omega)
    have hoo5 := hqo.trans ho5 fun _ _ h => h
    clear hq2 hq3 hqv hqr hqo ho5 hsz5
    have hoz := hb3.lt
    go_wp2_with fail
    refine (clone_any A5 _ c5 t5 _ hs5 (by omega)).mono ?_
    rintro _ w7 ⟨v7, rfl, ho7, hbl⟩
    have hz7 := hoo5.size
    have hon : Only w5 w7 (fun _ => False) := Only.of_below hbl
    have hb3 := hb3.only hon id
    have hb2 := hb2.only hon id
    have hv7 := hv5.only hon (fun _ _ => id)
    have hr7 := hr5.only hon (fun _ _ => id)
    have hoo7 := hoo5.trans hon fun _ _ h => h.elim
    have hlt7 : ∀ k, v7.ownBlock = some k → b3 < k := fun k hk => by
      have := (ho7.lt k hk).1
      have := hoz
      omega
    clear hbl hon hv5 hr5 hoo5 hs5
    obtain ⟨A7, c7, rfl, _, _, _⟩ := ho7.forms
    obtain ⟨x0, x1, x2, x3, xf⟩ := hb3
    have xf3 := xf 3
    obtain ⟨y0, y1, y2, y3, yf⟩ := hb2
    have yf0 := yf 0
    have yf1 := yf 1
    have yf2 := yf 2
    have yf3 := yf 3
    have hb2 : Bx w7 w.heap.size _ _ _ _ := ⟨y0, y1, y2, y3, yf⟩
    clear xf yf
    have hs1 := only_setB w7 ⟨b3, 3, none⟩ (.slice A7 t5.length c7)
    have hq2 := hb2.only hs1 (by show ¬ w.heap.size = b3; omega)
    obtain ⟨hf, hfo⟩ := hq2.set4 (.slice A1 ds.length c1) (.int .u8 2) (.string key) (.slice A7 t5.length c7)
    have hZ := HZ.out
    rw [if_pos (by trivial)] at hZ
    subst hZ
    have hof : Only w7 _ (fun k => k = w.heap.size ∨ k = b3) := (hs1.mono (fun _ _ h => .inr h)).trans hfo (fun _ _ h => .inl h)
    go_wp2
    refine bodyPost_ret (v := .agg #[.slice A1 ds.length c1, .int .u8 2, .string key, .slice A7 t5.length c7]) (by simp [results, Tryd.results99, go_sem, hf.c0, hf.c1, hf.c2, hf.c3]) rfl ⟨_, rfl, ⟨_, _, rfl, ?_, ?_⟩, ?_, ?_⟩
    · exact (hv7.only hof (fun k hk e => by have := hlt1 k hk; omega)).mono (by omega)
    · exact (ho7.only hof (fun k hk e => by have := hlt7 k hk; omega)).mono (by omega)
    · exact hr7.only hof (fun k hk e => by omega)
    · exact hoo7.trans hof (fun i hi e => by omega)

end Go.Proofs.YtpbjianhkjjgkaaDoor

namespace Go.Proofs.YtpbjianhkjjgkaaDoor
open Go.RowKit

set_option maxHeartbeats 8000000 in
theorem pdecode_any (A : Option Addr) (n c : Nat) (l : List UInt8) (w : World) (ha : Seg w A n l) (hnc : n ≤ c) (hcm : c ≤ maxLen) (hn : n ≤ 1000000) (hA : 0 < n → ∀ a, A = some a → a.block < w.heap.size) :
    Calls Tryd.prog 78 #[.slice A n c] w fun en w' => ∃ v, en = .returned (.tuple #[v, .int .i64 ((pdec l).2 : Int)]) ∧ PfOwn w' w.heap.size v (pdec l).1 ∧ Below w.heap.size w w' := by
  obtain ⟨Z, hZ⟩ : ∃ Z, pdec l = Z := ⟨_, rfl⟩
  unfold pdec at hZ
  rw [show pdec l = Z from hZ]
  obtain rfl := ha.len
  have hp := fun g W (h : Rp W g l 0) => pproof_any g l 0 W h (by omega)
  generalize ppf (l, 0) = X at *
  obtain ⟨p, l1, e1⟩ := X
  have he := fun g W (h : Rp W g l1 e1) => pend_any g l1 e1 W h
  generalize pend (l1, e1) = Y at *
  obtain ⟨l2, e2⟩ := Y
  dsimp only at *
  have HP := Lib.hid hp
  have HE := Lib.hid he
  have HZ := Lib.hid hZ
  clear hp he hZ
  have hb2 := Bx.new w (.slice none 0 0) (.int .u8 0) (.string ⟨#[]⟩) (.slice none 0 0) 65
  have ho1 := Only.alloc_ w (.cells #[.slice none 0 0, .int .u8 0, .string ⟨#[]⟩, .slice none 0 0] 65) (fun _ => False)
  have hz1 : (w.alloc (.cells #[.slice none 0 0, .int .u8 0, .string ⟨#[]⟩, .slice none 0 0] 65)).heap.size = w.heap.size + 1 := by simp
  go_enter Tryd.func78, Tryd.ntmps78
  go_wp2_with fail
  have hb2 := hb2.only (Only.alloc_ _ (.cells #[.slice A l.length c, .int .i64 0] 146) (fun _ => False)) id
  have ho1 := ho1.alloc (.cells #[.slice A l.length c, .int .i64 0] 146)
  have hr : Rp ((w.alloc (.cells #[.slice none 0 0, .int .u8 0, .string ⟨#[]⟩, .slice none 0 0] 65)).alloc (.cells #[.slice A l.length c, .int .i64 0] 146)) (w.heap.size + 1) l 0 :=
    ⟨⟨A, c, by simp, (ha.alloc _).alloc _, hnc, hcm, fun hp a e => by have := hA hp a e; omega⟩, by simp, fun j => by simp⟩
  clear hz1
  have hza := hr.lt
  generalize (w.alloc (.cells #[.slice none 0 0, .int .u8 0, .string ⟨#[]⟩, .slice none 0 0] 65)).alloc (.cells #[.slice A l.length c, .int .i64 0] 146) = wa at *
  refine (HP.out _ _ hr).mono ?_
  rintro _ w1 ⟨v, rfl, ⟨v1, v2, rfl, hv1, hv2⟩, hr1, hp1⟩
  have hb2 := hb2.only hp1 (by omega)
  have ho1 := ho1.trans hp1 (fun i hi e => by omega)
  obtain ⟨A1, c1, rfl, _, _, _⟩ := hv1.forms
  obtain ⟨A2, c2, rfl, _, _, _⟩ := hv2.forms
  have hz1 := hp1.size
  have hlt1 : ∀ k, (Value.slice A1 p.side.length c1).ownBlock = some k → w.heap.size + 1 < k ∧ k < w1.heap.size := fun k hk => by have := hv1.lt k hk; omega
  have hlt2 : ∀ k, (Value.slice A2 p.row.length c2).ownBlock = some k → w.heap.size + 1 < k ∧ k < w1.heap.size := fun k hk => by have := hv2.lt k hk; omega
  have hv1 := hv1.mono (b := w.heap.size) (by omega)
  have hv2 := hv2.mono (b := w.heap.size) (by omega)
  clear hr hp1 HP
  go_wp2_with fail
  have hal := Only.alloc_ w1 (.cells #[.slice A1 p.side.length c1, .int .u8 (p.k : Int), .string p.key, .slice A2 p.row.length c2] 65) (fun _ => False)
  have hb3 := Bx.new w1 (.slice A1 p.side.length c1) (.int .u8 (p.k : Int)) (.string p.key) (.slice A2 p.row.length c2) 65
  have hb2 := hb2.only hal id
  have hv1 := hv1.only hal (fun _ _ => id)
  have hv2 := hv2.only hal (fun _ _ => id)
  have ho1 := ho1.trans hal (fun _ _ h => h)
  have hr1 := hr1.only hal (fun _ _ => id)
  clear hal
  generalize w1.alloc (.cells #[.slice A1 p.side.length c1, .int .u8 (p.k : Int), .string p.key, .slice A2 p.row.length c2] 65) = wb at *
  generalize w1.heap.size = b3 at *
  refine (HE.out _ _ hr1).mono ?_
  rintro _ w2 ⟨rfl, hr2, hp2⟩
  have hb3 := hb3.only hp2 (by omega)
  have hb2 := hb2.only hp2 (by omega)
  have hv1 := hv1.only hp2 (fun k hk e => by have := hlt1 k hk; omega)
  have hv2 := hv2.only hp2 (fun k hk e => by have := hlt2 k hk; omega)
  have ho2 := ho1.trans hp2 (fun i hi e => by omega)
  have hbw : Below w.heap.size w w2 := ho2.below (Below.refl _ _) (fun _ h => h.elim) (Nat.le_refl _)
  obtain ⟨x0, x1, x2, x3, xf⟩ := hb3
  obtain ⟨y0, y1, y2, y3, yf⟩ := hb2
  have yf0 := yf 0
  have yf1 := yf 1
  have yf2 := yf 2
  have yf3 := yf 3
  have hb2 : Bx w2 w.heap.size _ _ _ _ := ⟨y0, y1, y2, y3, yf⟩
  have h1 := hr2.at1
  clear xf yf hp2 ho1 hr1 HE ho2
  by_cases hx : e2 = 0
  · subst hx
    have hZ := HZ.out
    rw [if_pos rfl] at hZ
    subst hZ
    obtain ⟨hf, hfo⟩ := hb2.set4 (.slice A1 p.side.length c1) (.int .u8 (p.k : Int)) (.string p.key) (.slice A2 p.row.length c2)
    go_wp2
    refine bodyPost_ret (v := .tuple #[.agg #[.slice A1 p.side.length c1, .int .u8 (p.k : Int), .string p.key, .slice A2 p.row.length c2], .int .i64 0]) (by simp [results, Tryd.results78, go_sem, hf.c0, hf.c1, hf.c2, hf.c3]) rfl ⟨_, rfl, ⟨_, _, rfl, ?_, ?_⟩, ?_⟩
    · exact hv1.only hfo (fun k hk e => by have := hlt1 k hk; omega)
    · exact hv2.only hfo (fun k hk e => by have := hlt2 k hk; omega)
    · exact hfo.below hbw (fun k e => by omega) hbw.size
  · have hne : ((e2 : Int) != 0) = true := by simp; omega
    have hZ := HZ.out
    rw [if_neg hx] at hZ
    subst hZ
    obtain ⟨hf, hfo⟩ := hb2.set4 (.slice none 0 0) (.int .u8 0) (.string ⟨#[]⟩) (.slice none 0 0)
    go_wp2
    go_region
    go_wp2
    refine bodyPost_ret (v := .tuple #[.agg #[.slice none 0 0, .int .u8 0, .string ⟨#[]⟩, .slice none 0 0], .int .i64 e2]) (by simp [results, Tryd.results78, go_sem, hf.c0, hf.c1, hf.c2, hf.c3]) rfl ⟨_, rfl, ⟨_, _, rfl, OwnG.nil _ _ _, Own.nil _ _ _⟩, ?_⟩
    exact (hfo.below hbw (fun k e => by omega) hbw.size).drew

end Go.Proofs.YtpbjianhkjjgkaaDoor
