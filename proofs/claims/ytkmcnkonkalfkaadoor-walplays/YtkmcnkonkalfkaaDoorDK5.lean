/-
  The program's disk and the document's, side by side.
-/
import Derived.Test.YtkmcnkonkalfkaaDoorDK3b
import Derived.Test.YtkmcnkonkalfkaaDoorDK4
namespace Go.Proofs.YtkmcnkonkalfkaaDoor
open Go.RowKit

/-- What a call answers that does as said, or not. -/
def e9 (b : Bool) : Int := if b = true then 0 else 9

section
variable {w : World} {B g : Nat} {v : Value} {l : List UInt8} {s : Nat} {f : Bool} {c : Int}
theorem append_un (hd : Dk w B g v l s f c) (b : Bool) (hw : wk f c = b) (A : Option Addr) (n cp : Nat) (p : List UInt8) (hp : Seg w A n p) (hap : 0 < n → ∀ a, A = some a → a.block ≠ g) (hl : l.length + n ≤ 1000000) :
    Calls Tryd.prog 44 #[.pointer (some ⟨g, 0, none⟩), .slice A n cp] w fun e w' => e = .returned (.int .i64 (e9 b)) ∧ ∃ v', Dk w' B g v' (if b = true then l ++ p else l) s f (dn f c) ∧ Only w w' (DkS g v) ∧ Moved w v v' := by
  rcases b with _ | _
  · refine (append_bad hd hw _).mono ?_
    rintro e w1 ⟨rfl, hd1, ho1⟩
    exact ⟨rfl, v, hd1, ho1.mono fun k _ e => .inl e, Moved.refl _ _⟩
  · refine (append_ok hd hw A n cp p hp hap hl).mono ?_
    rintro e w1 ⟨rfl, v1, hd1, ho1, hm1⟩
    exact ⟨rfl, v1, hd1, ho1, hm1⟩
theorem sync_un (hd : Dk w B g v l s f c) (b : Bool) (hw : wk f c = b) :
    Calls Tryd.prog 45 #[.pointer (some ⟨g, 0, none⟩)] w fun e w' => e = .returned (.int .i64 (e9 b)) ∧ ∃ v', Dk w' B g v' l (if b = true then l.length else s) f (dn f c) ∧ Only w w' (DkS g v) ∧ Moved w v v' := by
  rcases b with _ | _
  · refine (sync_bad hd hw).mono ?_
    rintro e w1 ⟨rfl, hd1, ho1⟩
    exact ⟨rfl, v, hd1, ho1.mono fun k _ e => .inl e, Moved.refl _ _⟩
  · refine (sync_ok hd hw).mono ?_
    rintro e w1 ⟨rfl, hd1, ho1⟩
    exact ⟨rfl, v, hd1, ho1.mono fun k _ e => .inl e, Moved.refl _ _⟩
theorem cut_un (hd : Dk w B g v l s f c) (b : Bool) (hw : wk f c = b) (x : Int) (hl : l.length ≤ 1000000) :
    Calls Tryd.prog 42 #[.pointer (some ⟨g, 0, none⟩), .int .i64 x] w fun e w' => e = .returned (.int .i64 (e9 b)) ∧ ∃ v', Dk w' B g v' (if b = true then l.take (min x.toNat l.length) else l) (if b = true then min x.toNat l.length else s) f (dn f c) ∧ Only w w' (DkS g v) ∧ Moved w v v' := by
  rcases b with _ | _
  · refine (cut_bad hd hw _).mono ?_
    rintro e w1 ⟨rfl, hd1, ho1⟩
    exact ⟨rfl, v, hd1, ho1.mono fun k _ e => .inl e, Moved.refl _ _⟩
  · refine (cut_ok hd hw x hl).mono ?_
    rintro e w1 ⟨rfl, v1, hd1, ho1, hv1⟩
    exact ⟨rfl, v1, hd1, ho1.mono fun k _ e => .inl e, Moved.of_eq hv1⟩
end

section
variable {w : World} {B g : Nat} {v : Value} {l : List UInt8} {s : Nat} {c : Int}
theorem rappend_un (hd : Mk w B g v l s c) (b : Bool) (hw : wm c = b) (A : Option Addr) (n cp : Nat) (p : List UInt8) (hp : Seg w A n p) (hap : 0 < n → ∀ a, A = some a → a.block ≠ g) (hl : l.length + n ≤ 1000000) :
    Calls Tryd.prog 23 #[.pointer (some ⟨g, 0, none⟩), .slice A n cp] w fun e w' => e = .returned (.int .i64 (e9 b)) ∧ ∃ v', Mk w' B g v' (if b = true then l ++ p else l) s (dm c) ∧ Only w w' (DkS g v) ∧ Moved w v v' := by
  rcases b with _ | _
  · refine (rappend_bad hd hw _).mono ?_
    rintro e w1 ⟨rfl, hd1, ho1⟩
    exact ⟨rfl, v, hd1, ho1.mono fun k _ e => .inl e, Moved.refl _ _⟩
  · refine (rappend_ok hd hw A n cp p hp hap hl).mono ?_
    rintro e w1 ⟨rfl, v1, hd1, ho1, hm1⟩
    exact ⟨rfl, v1, hd1, ho1.mono fun k _ e => .inl e, hm1⟩
theorem rsync_un (hd : Mk w B g v l s c) (b : Bool) (hw : wm c = b) :
    Calls Tryd.prog 26 #[.pointer (some ⟨g, 0, none⟩)] w fun e w' => e = .returned (.int .i64 (e9 b)) ∧ ∃ v', Mk w' B g v' l (if b = true then l.length else s) (dm c) ∧ Only w w' (DkS g v) ∧ Moved w v v' := by
  rcases b with _ | _
  · refine (rsync_bad hd hw).mono ?_
    rintro e w1 ⟨rfl, hd1, ho1⟩
    exact ⟨rfl, v, hd1, ho1.mono fun k _ e => .inl e, Moved.refl _ _⟩
  · refine (rsync_ok hd hw).mono ?_
    rintro e w1 ⟨rfl, hd1, ho1⟩
    exact ⟨rfl, v, hd1, ho1.mono fun k _ e => .inl e, Moved.refl _ _⟩
theorem rcut_un (hd : Mk w B g v l s c) (b : Bool) (hw : wm c = b) (x : Int) (hl : l.length ≤ 1000000) :
    Calls Tryd.prog 48 #[.pointer (some ⟨g, 0, none⟩), .int .i64 x] w fun e w' => e = .returned (.int .i64 (e9 b)) ∧ ∃ v', Mk w' B g v' (if b = true then l.take (min x.toNat l.length) else l) (if b = true then min x.toNat l.length else s) (dm c) ∧ Only w w' (DkS g v) ∧ Moved w v v' := by
  rcases b with _ | _
  · refine (rcut_bad hd hw _).mono ?_
    rintro e w1 ⟨rfl, hd1, ho1⟩
    exact ⟨rfl, v, hd1, ho1.mono fun k _ e => .inl e, Moved.refl _ _⟩
  · refine (rcut_ok hd hw x hl).mono ?_
    rintro e w1 ⟨rfl, v1, hd1, ho1, hm1⟩
    exact ⟨rfl, v1, hd1, ho1.mono fun k _ e => .inl e, hm1⟩
end

/-- Two disks in memory that share nothing. -/
structure Mid (w : World) (B g gm : Nat) (v vm : Value) (q : List UInt8) (s : Nat) (f : Bool) (c : Int) (qm : List UInt8) (sm : Nat) (cm : Int) : Prop where
  dk : Dk w B g v q s f c
  mm : Mk w B gm vm qm sm cm
  ap : ∀ k, DkS g v k → DkS gm vm k → False

section
variable {w w' : World} {B g gm : Nat} {v vm v' : Value} {q qm q' : List UInt8} {s sm s' : Nat} {f f' : Bool} {c cm c' : Int}
theorem Mid.d (h : Mid w B g gm v vm q s f c qm sm cm) (hd : Dk w' B g v' q' s' f' c') (ho : Only w w' (DkS g v)) (hm : Moved w v v') : Mid w' B g gm v' vm q' s' f' c' qm sm cm :=
  ⟨hd, h.mm.only ho (fun k hk hs => h.ap k hs hk), fun k h1 h2 => by
    rcases h1 with rfl | h1
    · exact h.ap _ (.inl rfl) h2
    · rcases hm k h1 with h3 | h3
      · exact h.ap k (.inr h3) h2
      · have := h.mm.lt k h2
        omega⟩
theorem Mid.m (h : Mid w B g gm v vm q s f c qm sm cm) (hd : Mk w' B gm v' q' s' c') (ho : Only w w' (DkS gm vm)) (hm : Moved w vm v') : Mid w' B g gm v v' q s f c q' s' c' :=
  ⟨h.dk.only ho (fun k hk hs => h.ap k hk hs), hd, fun k h1 h2 => by
    rcases h2 with rfl | h2
    · exact h.ap _ h1 (.inl rfl)
    · rcases hm k h2 with h3 | h3
      · exact h.ap k h1 (.inr h3)
      · have := h.dk.lt k h1
        omega⟩
theorem Mid.below (h : Mid w B g gm v vm q s f c qm sm cm) (hb : Below w.heap.size w w') : Mid w' B g gm v vm q s f c qm sm cm := ⟨h.dk.below hb, h.mm.below hb, h.ap⟩
theorem Mid.alloc (h : Mid w B g gm v vm q s f c qm sm cm) (o : Obj) : Mid (w.alloc o) B g gm v vm q s f c qm sm cm :=
  ⟨h.dk.alloc o, h.mm.only ((Only.refl w fun _ => False).alloc o) fun _ _ => id, h.ap⟩
theorem Mid.drewN (h : Mid w B g gm v vm q s f c qm sm cm) (n : Nat) : Mid (w.drewN n) B g gm v vm q s f c qm sm cm := ⟨h.dk.drewN n, h.mm.drewN n, h.ap⟩
theorem Mid.belowd {a : World} {b0 : Nat} (h : Mid w B g gm v vm q s f c qm sm cm) (h0 : Below b0 a w) (hB : b0 ≤ B) (ho : Only w w' (DkS g v)) : Below b0 a w' := (h.dk.mono hB).belows h0 ho
theorem Mid.belowm {a : World} {b0 : Nat} (h : Mid w B g gm v vm q s f c qm sm cm) (h0 : Below b0 a w) (hB : b0 ≤ B) (ho : Only w w' (DkS gm vm)) : Below b0 a w' :=
  ho.below h0 (fun k hk => Nat.le_trans hB (h.mm.ge k hk)) (Nat.le_trans hB (Nat.le_of_lt (Nat.lt_of_le_of_lt h.mm.hB h.mm.mc.lt)))
end

/-- Do both fail alike? -/
def Rl (f : Bool) (c cm : Int) : Prop := (f = false ∧ cm = -1) ∨ (f = true ∧ cm = c)
section
variable {f : Bool} {c cm : Int}
theorem Rl.wk (h : Rl f c cm) : wm cm = wk f c := by
  rcases h with ⟨rfl, rfl⟩ | ⟨rfl, rfl⟩
  · rfl
  · simp [wm, Go.Proofs.YtkmcnkonkalfkaaDoor.wk]
theorem Rl.dn (h : Rl f c cm) (hc : f = true → 0 ≤ c) : Rl f (dn f c) (dm cm) := by
  rcases h with ⟨rfl, rfl⟩ | ⟨rfl, rfl⟩
  · exact .inl ⟨rfl, rfl⟩
  · refine .inr ⟨rfl, ?_⟩
    have := hc rfl
    unfold dm Go.Proofs.YtkmcnkonkalfkaaDoor.dn
    by_cases h : cm = 0
    · subst h; simp
    · rw [if_pos (by omega), if_pos ⟨rfl, h⟩]
theorem Rl.fail (x : Int) : Rl (decide (0 ≤ x)) x (max x (-1)) := by
  by_cases h : 0 ≤ x
  · exact .inr ⟨decide_eq_true h, by omega⟩
  · exact .inl ⟨decide_eq_false h, by omega⟩
theorem Rl.crash (c : Int) : Rl false c (-1) := .inl ⟨rfl, rfl⟩
end

end Go.Proofs.YtkmcnkonkalfkaaDoor
