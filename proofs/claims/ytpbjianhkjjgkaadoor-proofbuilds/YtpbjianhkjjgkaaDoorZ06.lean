/-
  Texts of one claim, joined.
-/
import Derived.StillTailTactics
import Derived.Deep.Quiet
import Derived.Deep.QuietTactic
import Derived.BigQuiet
import Derived.OrdersHeld
import Derived.StillTail
import Derived.Test.YtpbjianhkjjgkaaDoorZ02
namespace Go.Proofs.YtpbjianhkjjgkaaDoor
open Go

section
variable {P : Program} {ops : Array Oper} {C : World → Prop} {n : Nat}

/-- Each operation from n on waits for number n - 1, or for one between. -/
def restWaits (ops : Array Oper) (n : Nat) : Bool :=
  (List.range ops.size).all fun t => decide (t < n) || (List.range t).any fun j => decide (n - 1 ≤ j) && Region.waitsFor .any ops t j
/-- All of the first n marked. -/
def marks : Nat → Nat → Array Bool → Array Bool
  | 0, _, d => d
  | f + 1, k, d => marks f (k + 1) (d.setIfInBounds k true)
/-- They may come in the text's order. -/
def headB (ops : Array Oper) : Nat → Nat → Array Bool → Bool
  | 0, _, _ => true
  | f + 1, k, d => (Region.ready .any ops d).contains k && Region.free .any ops d k && headB ops f (k + 1) (d.setIfInBounds k true)

theorem last_open (hs : Region.sinkB .any ops (n - 1) = true) {d : Array Bool} (inv : HeadInv .any ops n d) (hn : n ≤ ops.size) (m : Nat) : ∀ i, n - 1 - i = m → i < n → d.getD i true = false → d.getD (n - 1) true = false := by
  induction m using Nat.strongRecOn with
  | _ m ih =>
    intro i hm hi hun
    by_cases e : i = n - 1
    · rw [← e]; exact hun
    · have h1 := List.all_eq_true.1 hs i (List.mem_range.2 (by omega))
      obtain ⟨j, hj, hj2⟩ := List.any_eq_true.1 h1
      simp only [Bool.and_eq_true, decide_eq_true_eq] at hj2
      have hjn := List.mem_range.1 hj
      obtain ⟨oj, hoj, x, hx, hb, hon⟩ := Region.waitsFor_spec hj2.2
      cases hl : d.getD j false with
      | true =>
        have := inv.closed j oj hoj hl x hx hb
        rw [hon, getD_both hun] at this
        cases this
      | false => exact ih (n - 1 - j) (by omega) j rfl (by omega) (getD_in (by rw [inv.size]; omega) hl)

theorem rest_waits (hs : Region.sinkB .any ops (n - 1) = true) (hr : restWaits ops n = true) {d : Array Bool} (inv : HeadInv .any ops n d) (hn : n ≤ ops.size) (i : Nat) (hi : i < n) (hun : d.getD i true = false) (t : Nat) (ht : n ≤ t) : t ∉ Region.ready .any ops d := by
  intro hrd
  obtain ⟨_, ot, hot, hall⟩ := mem_ready.1 hrd
  have htl : t < ops.size := (Array.getElem?_eq_some_iff.1 hot).1
  have h1 := List.all_eq_true.1 hr t (List.mem_range.2 htl)
  simp only [Bool.or_eq_true, decide_eq_true_eq] at h1
  rcases h1 with h1 | h1
  · omega
  · obtain ⟨j, hj, hj2⟩ := List.any_eq_true.1 h1
    simp only [Bool.and_eq_true, decide_eq_true_eq] at hj2
    have hjt := List.mem_range.1 hj
    obtain ⟨o', ho', x, hx, hb, hon⟩ := Region.waitsFor_spec hj2.2
    obtain rfl : o' = ot := Option.some.inj (ho'.symm.trans hot)
    have h2 := hall x hx hb
    rw [hon] at h2
    have h3 : d.getD j true = false := by
      by_cases e : j = n - 1
      · rw [e]; exact last_open hs inv hn _ i rfl hi hun
      · exact inv.tail j (by omega) (by omega)
    rw [getD_both h3] at h2
    cases h2

/-- So many of the head are still to come, in whichever order; then L. -/
def HeadQ (P : Program) (ops : Array Oper) (C : World → Prop) (n : Nat) (L : Array Bool → Act → Prop) : Nat → Array Bool → Act → Prop
  | 0, d, a => L d a
  | m + 1, d, a => Region.ready .any ops d ≠ [] ∧ ∀ i ∈ Region.ready .any ops d, i < n ∧ qOp P ops C i (HeadQ P ops C n L m (d.setIfInBounds i true)) a

theorem HeadQ.toAny {L : Array Bool → Act → Prop} {g : Nat} {R : Exit → Act → World → Prop} (hL : ∀ d a w, C w → L d a → wpAny P .any ops R g d a w) (m : Nat) :
    ∀ (d : Array Bool) (a : Act) (w : World), C w → HeadQ P ops C n L m d a → wpAny P .any ops R (m + g) d a w := by
  induction m with
  | zero =>
    intro d a w hw h
    rw [Nat.zero_add]
    exact hL d a w hw h
  | succ m ih =>
    intro d a w hw h
    have e : m + 1 + g = (m + g) + 1 := by omega
    rw [e]
    exact ⟨fun h0 => absurd h0 h.1, fun i hi => wpOp_of_qOp hw (fun a' w' hw' hh => ih _ a' w' hw' hh) (h.2 i hi).2⟩

theorem HeadQ.take {L : Array Bool → Act → Prop} {i : Nat} {o : Oper} {v : Value} (hi : ops[i]? = some o) (hsel : ∀ (j : Nat) (x : Oper) cs b, ops[j]? = some x → x.op ≠ .select cs b)
    (hw : ∀ d, HeadInv .any ops n d → ∀ i, i < n → d.getD i true = false → ∀ t, n ≤ t → t ∉ Region.ready .any ops d) (hin : i < n) (hend : ∀ d a, L d a → ∀ j ∈ Region.ready .any ops d, n ≤ j) (m : Nat) :
    ∀ (d : Array Bool) (a : Act), HeadInv .any ops n d →
      (∀ j x, ops[j]? = some x → j ≠ i → d.getD j true = false → (∀ e ∈ x.after, Region.binds .any e = true → e.on ≠ i) → o.apart ops x = true) →
      i ∈ Region.ready .any ops d → YieldsIn P ops C o v a → HeadQ P ops C n L m (d.setIfInBounds i true) (a.put o.dst v) → HeadQ P ops C n L (m + 1) d a := by
  induction m with
  | zero =>
    intro d a inv _ hr hy H
    have hun := (mem_ready.1 hr).1
    refine ⟨fun h => (by rw [h] at hr; cases hr), fun j hj => ?_⟩
    have hjn : j < n := Nat.lt_of_not_le fun hle => hw d inv i hin hun j hle hj
    refine ⟨hjn, ?_⟩
    by_cases e : j = i
    · subst e
      exact hy.qOp hi H
    · exact absurd (hend _ _ H j (ready_mono hj e)) (by omega)
  | succ m ih =>
    intro d a inv hfree hr hy H
    have hun := (mem_ready.1 hr).1
    refine ⟨fun h => (by rw [h] at hr; cases hr), fun j hj => ?_⟩
    have hjn : j < n := Nat.lt_of_not_le fun hle => hw d inv i hin hun j hle hj
    refine ⟨hjn, ?_⟩
    by_cases e : j = i
    · subst e
      exact hy.qOp hi H
    · obtain ⟨hjun, x, hx, hall⟩ := mem_ready.1 hj
      have hnot : ∀ e ∈ x.after, Region.binds .any e = true → e.on ≠ i := by
        intro y hy' hb heq
        have := hall y hy' hb
        rw [heq, getD_both hun] at this
        cases this
      have step := qOp_put hx (hfree j x hx e hjun hnot) (fun cs b => hsel i o cs b hi) (fun cs b => hsel j x cs b hx) hy (H.2 j (ready_mono hj e)).2
      refine qOp_mono (fun a' h3 => ih (d.setIfInBounds j true) a' (inv.set hj hjn) ?_ (ready_mono hr (Ne.symm e)) h3.1 ?_) step
      · intro k y hk hki hunk hno
        refine hfree k y hk hki ?_ hno
        by_cases ek : j = k
        · subst ek
          exact hjun
        · rw [getD_set_ne true ek] at hunk
          exact hunk
      · rw [Array.setIfInBounds_comm _ _ e]
        exact h3.2

theorem HeadQ.walk {Z : Act → Prop} {fin : Array Bool} (hsel : Region.noSelect ops = true) (hw : ∀ d, HeadInv .any ops n d → ∀ i, i < n → d.getD i true = false → ∀ t, n ≤ t → t ∉ Region.ready .any ops d)
    (hfin : ∀ j ∈ Region.ready .any ops fin, n ≤ j) (l : List Oper) :
    ∀ (k : Nat) (d : Array Bool) (a : Act), (∀ j, j < l.length → l[j]? = ops[k + j]?) → k + l.length = n → HeadInv .any ops n d → headB ops l.length k d = true → marks l.length k d = fin → wpQuiet P ops C Z l a →
      HeadQ P ops C n (fun d' a' => d' = fin ∧ Z a') l.length d a := by
  induction l with
  | nil =>
    intro k d a _ hk _ _ hm h
    exact ⟨hm, h⟩
  | cons o l ih =>
    intro k d a hl hk inv hB hm h
    have h0 : ops[k]? = some o := by simpa using (hl 0 (by simp)).symm
    simp only [List.length_cons, headB, Bool.and_eq_true] at hB
    rw [List.length_cons] at hk hm
    have hr : k ∈ Region.ready .any ops d := by simpa using hB.1.1
    have hq : qOp P ops C k (wpQuiet P ops C Z l) a := by unfold qOp; simp only [h0]; exact h
    obtain ⟨v, hy, hK⟩ := yieldsIn_of_qOp h0 hq
    refine HeadQ.take h0 (Region.noSelect_spec hsel) hw (by omega) (fun _ _ hL => by rw [hL.1]; exact hfin) l.length d a inv (Region.free_spec h0 hB.1.2) hr hy (ih (k + 1) _ _ (fun j hj => ?_) (by omega) (inv.set hr (by omega)) hB.2 hm hK)
    have := hl (j + 1) (by simp; omega)
    rw [List.getElem?_cons_succ] at this
    rw [this]
    congr 1
    omega

/-- What is left, one at a time, by numbers. -/
def onlyB (ops : Array Oper) : List Nat → Array Bool → Bool
  | [], d => (Region.ready .any ops d).isEmpty
  | i :: is, d => decide (Region.ready .any ops d = [i]) && onlyB ops is (d.setIfInBounds i true)
theorem wpAny_only {Q : Exit → Act → World → Prop} (is : List Nat) : ∀ (l : List Oper) (d : Array Bool) (a : Act) (w : World), is.map (fun i => ops[i]?) = l.map some → onlyB ops is d = true → wpList P ops Q l a w → wpAny P .any ops Q is.length d a w := by
  induction is with
  | nil =>
    intro l d a w hl hB h
    obtain rfl : l = [] := by cases l with
      | nil => rfl
      | cons x l => simp at hl
    exact ⟨by simpa [onlyB] using hB, h⟩
  | cons i is ih =>
    intro l d a w hl hB h
    cases l with
    | nil => simp at hl
    | cons o l =>
      simp only [List.map_cons, List.cons.injEq] at hl
      simp only [onlyB, Bool.and_eq_true, decide_eq_true_eq] at hB
      refine ⟨fun h1 => (by rw [hB.1] at h1; cases h1), fun j hj => ?_⟩
      rw [hB.1] at hj
      obtain rfl : j = i := by simpa using hj
      have hw : wpOp P ops Q j (wpList P ops Q l) a w := by unfold wpOp; simp only [hl.1]; exact h
      exact wpOp_mono (fun a' w' h' => ih l _ a' w' hl.2 hB.2 h') hw
theorem map_filterMap (is : List Nat) (h : is.all (fun i => decide (i < ops.size)) = true) : is.map (fun i => ops[i]?) = (is.filterMap (fun i => ops[i]?)).map some := by
  induction is with
  | nil => rfl
  | cons i is ih =>
    simp only [List.all_cons, Bool.and_eq_true, decide_eq_true_eq] at h
    rw [List.map_cons, ih h.2, Array.getElem?_eq_getElem h.1, List.filterMap_cons, Array.getElem?_eq_getElem h.1]
    rfl
theorem wpAny_only' {Q : Exit → Act → World → Prop} (is : List Nat) (d : Array Bool) (a : Act) (w : World) (h1 : is.all (fun i => decide (i < ops.size)) = true) (h2 : onlyB ops is d = true) (h : wpList P ops Q (is.filterMap (fun i => ops[i]?)) a w) : wpAny P .any ops Q is.length d a w :=
  wpAny_only is _ d a w (map_filterMap is h1) h2 h
end

/-- THE LAW: a quiet head; the rest from the state behind it. -/
theorem wp_region_quiet_head {P : Program} {id : Nat} {Q : Exit → Act → World → Prop} {a : Act} {w : World} {l : List Oper} (C : World → Prop) (n : Nat) (fin : Array Bool) (hm : P.follows .mixedOrders = true)
    (hB : (Region.noSelect l.toArray && decide (n ≤ l.toArray.size) && Region.sinkB .any l.toArray (n - 1) && restWaits l.toArray n && headB l.toArray n 0 (Array.replicate l.toArray.size false) && decide (marks n 0 (Array.replicate l.toArray.size false) = fin) && (Region.ready .any l.toArray fin).all (fun j => decide (n ≤ j))) = true)
    (hC : C w.drew) (h : wpQuiet P l.toArray C (fun a' => ∀ w', C w' → wpAny P .any l.toArray Q (l.toArray.size - n) fin a' w') (l.take n) a) : (Code.region id l.toArray true).wp P Q a w := by
  simp only [Bool.and_eq_true, decide_eq_true_eq] at hB
  obtain ⟨⟨⟨⟨⟨⟨hsel, hn⟩, hs⟩, hr⟩, hhd⟩, hmk⟩, hend⟩ := hB
  have hnl : n ≤ l.length := by simpa using hn
  have ht : (l.take n).length = n := by rw [List.length_take]; omega
  have inv0 : HeadInv .any l.toArray n (Array.replicate l.toArray.size false) :=
    ⟨by simp, fun j x _ hl => (by rw [getD_replicate_false] at hl; cases hl), fun t _ htt => getD_in (by simpa using htt) (getD_replicate_false _ _)⟩
  have H := HeadQ.walk (P := P) (C := C) (fin := fin) hsel (fun d inv i hi hun t htt => rest_waits hs hr inv hn i hi hun t htt) (fun j hj => by simpa using List.all_eq_true.1 hend j hj) (l.take n) 0 _ a (fun j hj => by rw [ht] at hj; simp [hj]) (by rw [ht]; omega) inv0 (by rw [ht]; exact hhd) (by rw [ht]; exact hmk) h
  have R := HeadQ.toAny (g := l.toArray.size - n) (R := Q) (fun d a' w' hw' hL => by rw [hL.1]; exact hL.2 w' hw') _ _ _ w.drew hC H
  rw [ht, show n + (l.toArray.size - n) = l.toArray.size from by omega] at R
  exact wp_region_any hm R

end Go.Proofs.YtpbjianhkjjgkaaDoor

namespace Go.Proofs.YtpbjianhkjjgkaaDoor
open Go

section
variable {P : Program} {ops : Array Oper} {n : Nat} {Q : Exit → Act → World → Prop}

/-- t waits for i, or for one that does, and so on. -/
def reach (ops : Array Oper) : Nat → Nat → Nat → Bool
  | 0, _, _ => false
  | f + 1, t, i => Region.waitsFor .any ops t i || (List.range t).any fun j => Region.waitsFor .any ops t j && reach ops f j i
theorem reach_listed {d : Array Bool} (inv : HeadInv .any ops n d) {i : Nat} (f : Nat) : ∀ (t : Nat) (o : Oper), ops[t]? = some o → (∀ e ∈ o.after, Region.binds .any e = true → d.getD e.on false = true) → reach ops f t i = true → d.getD i false = true := by
  induction f with
  | zero => intro t o _ _ h; cases h
  | succ f ih =>
    intro t o ho hdep h
    simp only [reach, Bool.or_eq_true] at h
    rcases h with h | h
    · obtain ⟨o', ho', x, hx, hb, hon⟩ := Region.waitsFor_spec h
      obtain rfl : o' = o := Option.some.inj (ho'.symm.trans ho)
      rw [← hon]
      exact hdep x hx hb
    · obtain ⟨j, _, hj⟩ := List.any_eq_true.1 h
      simp only [Bool.and_eq_true] at hj
      obtain ⟨o', ho', x, hx, hb, hon⟩ := Region.waitsFor_spec hj.1
      obtain rfl : o' = o := Option.some.inj (ho'.symm.trans ho)
      have hl := hdep x hx hb
      rw [hon] at hl
      have hjs : j < ops.size := by
        have : j < d.size := by
          rcases Nat.lt_or_ge j d.size with h' | h'
          · exact h'
          · simp [h'] at hl
        rw [← inv.size]
        exact this
      exact ih j ops[j] (Array.getElem?_eq_getElem hjs) (inv.closed j _ (Array.getElem?_eq_getElem hjs) hl) hj.2

/-- Each operation from n on waits for all of the first n; each of these waits for earlier ones alone. -/
def restAll (ops : Array Oper) (n : Nat) : Bool :=
  (List.range ops.size).all fun t => decide (t < n) || (List.range n).all fun j => reach ops 4 t j
def backB (ops : Array Oper) (n : Nat) : Bool :=
  (List.range n).all fun i => match ops[i]? with
    | some o => o.after.all fun e => decide (e.on < i)
    | none => false

theorem wpAny_more : ∀ (g : Nat) (d : Array Bool) (a : Act) (w : World), wpAny P .any ops Q g d a w → wpAny P .any ops Q (g + 1) d a w := by
  intro g
  induction g with
  | zero =>
    intro d a w h
    refine ⟨fun _ => h.2, fun i hi => ?_⟩
    rw [h.1] at hi
    cases hi
  | succ g ih =>
    intro d a w h
    exact ⟨h.1, fun i hi => wpOp_mono (fun a' w' h' => ih _ a' w' h') (h.2 i hi)⟩
theorem wpAny_plus (k g : Nat) (d : Array Bool) (a : Act) (w : World) (h : wpAny P .any ops Q g d a w) : wpAny P .any ops Q (k + g) d a w := by
  induction k with
  | zero => rw [Nat.zero_add]; exact h
  | succ k ih =>
    have := wpAny_more _ _ _ _ ih
    rw [show k + 1 + g = k + g + 1 from by omega]
    exact this

/-- How many of the first n are still to come. -/
def togo (d : Array Bool) (l : List Nat) : Nat := l.countP fun i => !d.getD i true
theorem togo_le (d : Array Bool) (j : Nat) (l : List Nat) : togo (d.setIfInBounds j true) l ≤ togo d l := by
  refine List.countP_mono_left fun i _ h => ?_
  by_cases e : j = i
  · subst e
    simp only [Bool.not_eq_true', Array.getD_eq_getD_getElem?] at h ⊢
    rcases Nat.lt_or_ge j d.size with h' | h'
    · simp [h'] at h
    · simp [h'] at h
  · rw [getD_set_ne true e] at h
    exact h
theorem togo_lt (d : Array Bool) (j : Nat) (hj : d.getD j true = false) : ∀ l : List Nat, j ∈ l → togo (d.setIfInBounds j true) l < togo d l := by
  intro l
  induction l with
  | nil => intro h; cases h
  | cons i l ih =>
    intro h
    have h2 := togo_le d j l
    unfold togo at *
    rw [List.countP_cons, List.countP_cons]
    by_cases e : i = j
    · subst e
      have h3 : (d.setIfInBounds i true).getD i true = true := by
        rcases Nat.lt_or_ge i d.size with h' | h'
        · simp [h']
        · simp [h']
      rw [h3, hj]
      simp only [Bool.not_true, Bool.not_false, if_true, Bool.false_eq_true, if_false]
      omega
    · have h4 := ih (by rcases List.mem_cons.1 h with h | h
                        · exact absurd h.symm e
                        · exact h)
      rw [getD_set_ne true (Ne.symm e)]
      omega

theorem wpAny_inv {I : Array Bool → Act → World → Prop} {g : Nat} (hn : n ≤ ops.size) (hall : restAll ops n = true) (hback : backB ops n = true)
    (hstep : ∀ d a w, I d a w → ∀ i o, i < n → ops[i]? = some o → (∀ e ∈ o.after, Region.binds .any e = true → d.getD e.on false = true) → wpOp P ops Q i (I (d.setIfInBounds i true)) a w)
    (hfin : ∀ d a w, HeadInv .any ops n d → (∀ i, i < n → d.getD i true = true) → I d a w → wpAny P .any ops Q g d a w) (m : Nat) :
    ∀ (d : Array Bool) (a : Act) (w : World), HeadInv .any ops n d → togo d (List.range n) ≤ m → I d a w → wpAny P .any ops Q (m + g) d a w := by
  induction m with
  | zero =>
    intro d a w inv hc hI
    rw [Nat.zero_add]
    refine hfin d a w inv (fun i hi => ?_) hI
    have h0 := List.countP_eq_zero.1 (Nat.le_zero.1 hc) i (List.mem_range.2 hi)
    simpa using h0
  | succ m ih =>
    intro d a w inv hc hI
    by_cases hex : ∃ i, i < n ∧ d.getD i true = false
    · have hmin : ∃ i, i < n ∧ d.getD i true = false ∧ ∀ j, j < i → d.getD j true = true := by
        obtain ⟨i, hi, hun⟩ := hex
        induction i using Nat.strongRecOn with
        | _ i ihi =>
          by_cases hj : ∃ j, j < i ∧ d.getD j true = false
          · obtain ⟨j, hji, hju⟩ := hj
            exact ihi j hji (by omega) hju
          · refine ⟨i, hi, hun, fun j hji => ?_⟩
            cases hd : d.getD j true with
            | true => rfl
            | false => exact absurd ⟨j, hji, hd⟩ hj
      obtain ⟨i, hi, hun, hlow⟩ := hmin
      rw [show m + 1 + g = (m + g) + 1 from by omega]
      refine ⟨fun h0 => ?_, fun j hj => ?_⟩
      · have hb := List.all_eq_true.1 hback i (List.mem_range.2 hi)
        have hio : ops[i]? = some ops[i] := Array.getElem?_eq_getElem (by omega)
        rw [hio] at hb
        have hr : i ∈ Region.ready .any ops d := by
          refine mem_ready.2 ⟨hun, _, hio, fun e he _ => ?_⟩
          have h1 : decide (e.on < i) = true := Array.all_eq_true_iff_forall_mem.1 hb e he
          have h2 := hlow _ (of_decide_eq_true h1)
          cases hd : d.getD e.on false with
          | true => rfl
          | false =>
            have := getD_in (by rw [inv.size]; have := of_decide_eq_true h1; omega) hd
            rw [this] at h2
            cases h2
        rw [h0] at hr
        cases hr
      · obtain ⟨hju, o, ho, hdep⟩ := mem_ready.1 hj
        have hjs : j < ops.size := (Array.getElem?_eq_some_iff.1 ho).1
        have hjn : j < n := Nat.lt_of_not_le fun hle => by
          have h1 := List.all_eq_true.1 hall j (List.mem_range.2 hjs)
          simp only [Bool.or_eq_true, decide_eq_true_eq] at h1
          rcases h1 with h1 | h1
          · omega
          · have h2 := List.all_eq_true.1 h1 i (List.mem_range.2 hi)
            have h3 := reach_listed inv 4 j o ho hdep h2
            rw [getD_both hun] at h3
            cases h3
        refine wpOp_mono (fun a' w' h' => ih _ a' w' (inv.set hj hjn) ?_ h') (hstep d a w hI j o hjn ho hdep)
        have := togo_lt d j hju (List.range n) (List.mem_range.2 hjn)
        omega
    · refine wpAny_plus (m + 1) g d a w (hfin d a w inv (fun i hi => ?_) hI)
      cases hd : d.getD i true with
      | true => rfl
      | false => exact absurd ⟨i, hi, hd⟩ hex
end

/-- THE LAW. -/
theorem wp_region_inv {P : Program} {id : Nat} {Q : Exit → Act → World → Prop} {a : Act} {w : World} {l : List Oper} (n : Nat) (I : Array Bool → Act → World → Prop) (hm : P.follows .mixedOrders = true)
    (hB : (decide (n ≤ l.toArray.size) && restAll l.toArray n && backB l.toArray n) = true)
    (h0 : I (Array.replicate l.toArray.size false) a w.drew)
    (hstep : ∀ d a w, I d a w → ∀ i o, i < n → l.toArray[i]? = some o → (∀ e ∈ o.after, Region.binds .any e = true → d.getD e.on false = true) → wpOp P l.toArray Q i (I (d.setIfInBounds i true)) a w)
    (hfin : ∀ a w, I (marks n 0 (Array.replicate l.toArray.size false)) a w → wpAny P .any l.toArray Q (l.toArray.size - n) (marks n 0 (Array.replicate l.toArray.size false)) a w) : (Code.region id l.toArray true).wp P Q a w := by
  simp only [Bool.and_eq_true, decide_eq_true_eq] at hB
  obtain ⟨⟨hn, hall⟩, hback⟩ := hB
  have inv0 : HeadInv .any l.toArray n (Array.replicate l.toArray.size false) :=
    ⟨by simp, fun j x _ hl => (by rw [getD_replicate_false] at hl; cases hl), fun t _ htt => getD_in (by simpa using htt) (getD_replicate_false _ _)⟩
  have hmk : ∀ (f k : Nat) (d : Array Bool), (marks f k d).size = d.size ∧ ∀ j, (marks f k d).getD j true = if k ≤ j ∧ j < k + f then true else d.getD j true := by
    intro f
    induction f with
    | zero =>
      intro k d
      refine ⟨rfl, fun j => ?_⟩
      rw [if_neg (by omega)]
      rfl
    | succ f ih =>
      intro k d
      obtain ⟨h1, h2⟩ := ih (k + 1) (d.setIfInBounds k true)
      refine ⟨by show (marks f (k + 1) _).size = _; rw [h1]; simp, fun j => ?_⟩
      show (marks f (k + 1) (d.setIfInBounds k true)).getD j true = _
      rw [h2]
      by_cases e : k = j
      · subst e
        rw [if_neg (by omega), if_pos (by omega)]
        rcases Nat.lt_or_ge k d.size with h' | h'
        · simp [h']
        · simp [h']
      · rw [getD_set_ne true e]
        by_cases hh : k ≤ j ∧ j < k + (f + 1)
        · rw [if_pos hh, if_pos (by omega)]
        · rw [if_neg hh, if_neg (by omega)]
  have R := wpAny_inv (P := P) (Q := Q) (I := I) (g := l.toArray.size - n) hn hall hback hstep (fun d a w inv hdone hI => by
    have e : d = marks n 0 (Array.replicate l.toArray.size false) := by
      obtain ⟨h1, h2⟩ := hmk n 0 (Array.replicate l.toArray.size false)
      refine Array.ext (by rw [h1, inv.size]; simp) fun j hj1 hj2 => ?_
      have h3 := h2 j
      have h4 : d.getD j true = (marks n 0 (Array.replicate l.toArray.size false)).getD j true := by
        rw [h3]
        by_cases hjn : j < n
        · rw [if_pos (by omega), hdone j hjn]
        · rw [if_neg (by omega), inv.tail j (by omega) (by rw [← inv.size]; exact hj1)]
          symm
          exact getD_in (by rw [inv.size] at hj1; simpa using hj1) (getD_replicate_false _ _)
      rw [Array.getD_eq_getD_getElem?, Array.getD_eq_getD_getElem?, Array.getElem?_eq_getElem hj1, Array.getElem?_eq_getElem hj2] at h4
      exact h4
    subst e
    exact hfin a w hI) n (Array.replicate l.toArray.size false) a w.drew inv0 (by
      unfold togo
      exact Nat.le_trans List.countP_le_length (by simp)) h0
  rw [show n + (l.toArray.size - n) = l.toArray.size from by omega] at R
  exact wp_region_any hm R

theorem upon_then {P : Program} {ops : Array Oper} {Q : Exit → Act → World → Prop} {K : Act → World → Prop} {a : Act} {o : Oper} (r : Result Next)
    (h : o.upon P a (wpList P ops (Exit.then K Q) []) (Exit.then K Q) r) : o.upon P a K Q r := by
  cases r with
  | ok x w' => cases x <;> exact h
  | halt hl w' => cases hl <;> exact h

/-- One operation of such a region, as a list of one. -/
theorem wpOp_one {P : Program} {ops : Array Oper} {Q : Exit → Act → World → Prop} {i : Nat} {K : Act → World → Prop} {a : Act} {w : World} {o : Oper} (ho : ops[i]? = some o)
    (h : wpList P ops (Exit.then K Q) [o] a w) : wpOp P ops Q i K a w := by
  unfold wpOp
  simp only [ho]
  unfold wpList at h
  split
  · rename_i hw
    rw [if_pos hw] at h
    rcases h with h | h
    · exact .inl (upon_then _ h)
    · exact .inr ⟨h.1, h.2⟩
  · rename_i hw
    rw [if_neg hw] at h
    exact h

end Go.Proofs.YtpbjianhkjjgkaaDoor

namespace Go.Proofs.YtpbjianhkjjgkaaDoor
open Go

section
variable {P : Program} {ops : Array Oper} {Q : Exit → Act → World → Prop} {md : Region.Mode} {C : World → Prop} {t : Nat}

def wpAnyT (P : Program) (md : Region.Mode) (ops : Array Oper) (Q : Exit → Act → World → Prop) (C : World → Prop) (t : Nat) : Nat → Array Bool → Act → World → Prop
  | 0, listed, a, w => Region.ready md ops listed = [] ∧ Q .normal a w
  | fuel + 1, listed, a, w =>
    (Region.ready md ops listed = [] → Q .normal a w) ∧
    ∀ i ∈ Region.ready md ops listed, wpOp P ops Q i (fun a' w' => (i = t ∨ C w') ∧ wpAnyT P md ops Q C t fuel (listed.setIfInBounds i true) a' w') a w

theorem wpAny_of_T : ∀ (fuel : Nat) (listed : Array Bool) (a : Act) (w : World), wpAnyT P md ops Q C t fuel listed a w → wpAny P md ops Q fuel listed a w
  | 0, _, _, _, h => h
  | fuel + 1, _, _, _, h => ⟨h.1, fun i hi => wpOp_mono (fun a' w' h' => wpAny_of_T fuel _ a' w' h'.2) (h.2 i hi)⟩

theorem wpAnyT_first {i : Nat} {oi : Oper} {v : Value} (hi : ops[i]? = some oi) (hsel : ∀ (j : Nat) (o : Oper) cs b, ops[j]? = some o → o.op ≠ .select cs b)
    (hQ : ∀ c a w, Q (.panic c) (a.put oi.dst v) w → Q (.panic c) a w) (hti : ∃ e, (∃ o, ops[t]? = some o ∧ e ∈ o.after) ∧ Region.binds md e = true ∧ e.on = i) :
    ∀ (fuel : Nat) (listed : Array Bool) (a : Act) (w : World),
      (∀ j oj, ops[j]? = some oj → j ≠ i → listed.getD j true = false → (∀ e ∈ oj.after, Region.binds md e = true → e.on ≠ i) → oi.apart ops oj = true) →
      i ∈ Region.ready md ops listed → YieldsIf P ops C oi v a → C w →
      wpAnyT P md ops Q C t fuel (listed.setIfInBounds i true) (a.put oi.dst v) w → wpAnyT P md ops Q C t (fuel + 1) listed a w := by
  intro fuel
  induction fuel with
  | zero =>
    intro listed a w _ hr hy hS H
    refine ⟨fun h => (by rw [h] at hr; cases hr), fun j hj => ?_⟩
    by_cases hji : j = i
    · subst hji; exact hy.wpOp hi hS ⟨.inr hS, H⟩
    · have := ready_mono hj hji
      rw [H.1] at this
      cases this
  | succ fuel ih =>
    intro listed a w hfree hr hy hS H
    refine ⟨fun h => (by rw [h] at hr; cases hr), fun j hj => ?_⟩
    by_cases hji : j = i
    · subst hji; exact hy.wpOp hi hS ⟨.inr hS, H⟩
    · have h1 := H.2 j (ready_mono hj hji)
      obtain ⟨hjun, oj, hoj, hall⟩ := mem_ready.1 hj
      have hnot : ∀ e ∈ oj.after, Region.binds md e = true → e.on ≠ i := fun e he hb heq => by
        have h1 := hall e he hb
        have h0 := (mem_ready.1 hr).1
        rw [heq] at h1
        rcases Nat.lt_or_ge i listed.size with h' | h'
        · simp [h'] at h0 h1; rw [h0] at h1; cases h1
        · simp [Array.getElem?_eq_none h'] at h1
      have hjt : j ≠ t := fun e => by
        obtain ⟨x, ⟨o, ho, hx⟩, hb, hon⟩ := hti
        subst e
        obtain rfl : o = oj := Option.some.inj (ho.symm.trans hoj)
        exact hnot x hx hb hon
      have h2 := wpOp_putIf hoj (hfree j oj hoj hji hjun hnot) (fun cs b => hsel i oi cs b hi) (fun cs b => hsel j oj cs b hoj) hQ hy h1
      have hfree' : ∀ k ok, ops[k]? = some ok → k ≠ i → (listed.setIfInBounds j true).getD k true = false →
          (∀ e ∈ ok.after, Region.binds md e = true → e.on ≠ i) → oi.apart ops ok = true := fun k ok hk hki hun hno => by
        refine hfree k ok hk hki ?_ hno
        by_cases hjk : j = k
        · subst hjk; exact hjun
        · rw [getD_set_ne true hjk] at hun; exact hun
      refine wpOp_mono (fun a' w' h3 => ?_) h2
      have hCw : C w' := h3.2.1.resolve_left hjt
      refine ⟨.inr hCw, ih (listed.setIfInBounds j true) a' w' hfree' (ready_mono hr (Ne.symm hji)) h3.1 hCw ?_⟩
      rw [Array.setIfInBounds_comm _ _ hji]
      exact h3.2.2

theorem wpAnyT_take {i : Nat} {oi : Oper} {v : Value} {fuel : Nat} {listed : Array Bool} {a : Act} {w : World} (hi : ops[i]? = some oi)
    (hs : (Region.noSelect ops && Region.free md ops listed i && (Region.ready md ops listed).contains i && Region.waitsFor md ops t i) = true)
    (hQ : ∀ c a w, Q (.panic c) (a.put oi.dst v) w → Q (.panic c) a w) (hC : C w) (hy : YieldsIf P ops C oi v a)
    (h : wpAnyT P md ops Q C t fuel (listed.setIfInBounds i true) (a.put oi.dst v) w) : wpAnyT P md ops Q C t (fuel + 1) listed a w := by
  simp only [Bool.and_eq_true] at hs
  obtain ⟨⟨⟨h1, h2⟩, h3⟩, h4⟩ := hs
  obtain ⟨o, ho, x, hx, hb, hon⟩ := Region.waitsFor_spec h4
  exact wpAnyT_first hi (Region.noSelect_spec h1) hQ ⟨x, ⟨o, ho, hx⟩, hb, hon⟩ fuel listed a w (Region.free_spec hi h2) (by simpa using h3) hy hC h

/-- Just one may come. -/
theorem wpAnyT_step (i : Nat) {o : Oper} {fuel : Nat} {listed : Array Bool} {a : Act} {w : World} (hi : ops[i]? = some o) (hr : decide (Region.ready md ops listed = [i]) = true)
    (h : wpList P ops (Exit.then (fun a' w' => (i = t ∨ C w') ∧ wpAnyT P md ops Q C t fuel (listed.setIfInBounds i true) a' w') Q) [o] a w) : wpAnyT P md ops Q C t (fuel + 1) listed a w := by
  have hr' := of_decide_eq_true hr
  refine ⟨fun h0 => (by rw [hr'] at h0; cases h0), fun j hj => ?_⟩
  rw [hr'] at hj
  obtain rfl : j = i := by simpa using hj
  exact wpOp_one hi h

theorem wpAnyT_done {listed : Array Bool} {a : Act} {w : World} (hr : decide (Region.ready md ops listed = []) = true) (h : Q .normal a w) : wpAnyT P md ops Q C t 0 listed a w := ⟨of_decide_eq_true hr, h⟩

/-- THE BEGINNING. -/
theorem wp_region_till {id : Nat} {a : Act} {w : World} (C : World → Prop) (t : Nat) (hm : P.follows .mixedOrders = true)
    (h : wpAnyT P .any ops Q C t ops.size (Array.replicate ops.size false) a w.drew) : (Code.region id ops true).wp P Q a w :=
  wp_region_any hm (wpAny_of_T _ _ _ _ h)
end

end Go.Proofs.YtpbjianhkjjgkaaDoor

namespace Go.Proofs.YtpbjianhkjjgkaaDoor
open Go

section
variable {P : Program} {ops : Array Oper} {Q : Exit → Act → World → Prop} {md : Region.Mode} {C : World → Prop} {T : Nat → Bool}

def wpAnyS (P : Program) (md : Region.Mode) (ops : Array Oper) (Q : Exit → Act → World → Prop) (C : World → Prop) (T : Nat → Bool) : Nat → Array Bool → Act → World → Prop
  | 0, listed, a, w => Region.ready md ops listed = [] ∧ Q .normal a w
  | fuel + 1, listed, a, w =>
    (Region.ready md ops listed = [] → Q .normal a w) ∧
    ∀ i ∈ Region.ready md ops listed, wpOp P ops Q i (fun a' w' => (T i = true ∨ C w') ∧ wpAnyS P md ops Q C T fuel (listed.setIfInBounds i true) a' w') a w

theorem wpAny_of_S : ∀ (fuel : Nat) (listed : Array Bool) (a : Act) (w : World), wpAnyS P md ops Q C T fuel listed a w → wpAny P md ops Q fuel listed a w
  | 0, _, _, _, h => h
  | fuel + 1, _, _, _, h => ⟨h.1, fun i hi => wpOp_mono (fun a' w' h' => wpAny_of_S fuel _ a' w' h'.2) (h.2 i hi)⟩

/-- What is done has all done that it waits for. -/
def ShutL (md : Region.Mode) (ops : Array Oper) (listed : Array Bool) : Prop :=
  ∀ j oj, ops[j]? = some oj → listed.getD j false = true → ∀ e ∈ oj.after, Region.binds md e = true → listed.getD e.on false = true
def shutB (md : Region.Mode) (ops : Array Oper) (listed : Array Bool) : Bool :=
  (List.range ops.size).all fun j => match ops[j]? with
    | some oj => !(listed.getD j false) || oj.after.all fun e => !(Region.binds md e) || listed.getD e.on false
    | none => true
theorem shutB_spec {listed : Array Bool} (h : shutB md ops listed = true) : ShutL md ops listed := by
  intro j oj hj hl e he hb
  have hlt : j < ops.size := (Array.getElem?_eq_some_iff.1 hj).1
  have h1 := List.all_eq_true.1 h j (List.mem_range.2 hlt)
  simp only [hj, hl, Bool.not_true, Bool.false_or, Array.all_eq_true_iff_forall_mem] at h1
  have h2 := h1 e he
  simpa [hb] using h2
theorem ShutL.set {i : Nat} {listed : Array Bool} (inv : ShutL md ops listed) (hi : i ∈ Region.ready md ops listed) : ShutL md ops (listed.setIfInBounds i true) := by
  obtain ⟨_, oi, hoi, hall⟩ := mem_ready.1 hi
  intro j oj hj hl e he hb
  by_cases hij : i = j
  · subst hij
    obtain rfl : oj = oi := Option.some.inj (hj.symm.trans hoi)
    exact getD_set_true (hall e he hb)
  · rw [getD_set_ne false hij] at hl
    exact getD_set_true (inv j oj hj hl e he hb)

/-- Does j wait for i, over others too? -/
def behindB (md : Region.Mode) (ops : Array Oper) (i : Nat) : Nat → Nat → Bool
  | 0, _ => false
  | fuel + 1, j => match ops[j]? with
    | some oj => oj.after.any fun e => Region.binds md e && (e.on == i || behindB md ops i fuel e.on)
    | none => false
theorem behindB_spec {i : Nat} {listed : Array Bool} (inv : ShutL md ops listed) : ∀ (fuel j : Nat) (oj : Oper), ops[j]? = some oj → (∀ e ∈ oj.after, Region.binds md e = true → listed.getD e.on false = true) → behindB md ops i fuel j = true → listed.getD i false = true
  | 0, _, _, _, _, h => by simp [behindB] at h
  | fuel + 1, j, oj, hj, hall, h => by
    simp only [behindB, hj] at h
    obtain ⟨e, he, hb⟩ := Array.any_eq_true'.1 h
    simp only [Bool.and_eq_true, Bool.or_eq_true, beq_iff_eq] at hb
    obtain ⟨hb1, hb2⟩ := hb
    have hl := hall e he hb1
    rcases hb2 with rfl | hb2
    · exact hl
    · cases ho : ops[e.on]? with
      | none =>
        cases fuel with
        | zero => simp [behindB] at hb2
        | succ f => simp [behindB, ho] at hb2
      | some o => exact behindB_spec inv fuel e.on o ho (inv e.on o ho hl) hb2

theorem wpAnyS_first {i : Nat} {oi : Oper} {v : Value} (hi : ops[i]? = some oi) (hsel : ∀ (j : Nat) (o : Oper) cs b, ops[j]? = some o → o.op ≠ .select cs b)
    (hQ : ∀ c a w, Q (.panic c) (a.put oi.dst v) w → Q (.panic c) a w) (hti : ∀ j, j < ops.size → T j = true → behindB md ops i ops.size j = true) :
    ∀ (fuel : Nat) (listed : Array Bool) (a : Act) (w : World),
      (∀ j oj, ops[j]? = some oj → j ≠ i → listed.getD j true = false → (∀ e ∈ oj.after, Region.binds md e = true → e.on ≠ i) → oi.apart ops oj = true) →
      ShutL md ops listed → i ∈ Region.ready md ops listed → YieldsIf P ops C oi v a → C w →
      wpAnyS P md ops Q C T fuel (listed.setIfInBounds i true) (a.put oi.dst v) w → wpAnyS P md ops Q C T (fuel + 1) listed a w := by
  intro fuel
  induction fuel with
  | zero =>
    intro listed a w _ _ hr hy hS H
    refine ⟨fun h => (by rw [h] at hr; cases hr), fun j hj => ?_⟩
    by_cases hji : j = i
    · subst hji; exact hy.wpOp hi hS ⟨.inr hS, H⟩
    · have := ready_mono hj hji
      rw [H.1] at this
      cases this
  | succ fuel ih =>
    intro listed a w hfree hshut hr hy hS H
    refine ⟨fun h => (by rw [h] at hr; cases hr), fun j hj => ?_⟩
    by_cases hji : j = i
    · subst hji; exact hy.wpOp hi hS ⟨.inr hS, H⟩
    · have h1 := H.2 j (ready_mono hj hji)
      obtain ⟨hjun, oj, hoj, hall⟩ := mem_ready.1 hj
      have hiun : listed.getD i false = false := getD_both (mem_ready.1 hr).1
      have hnot : ∀ e ∈ oj.after, Region.binds md e = true → e.on ≠ i := fun e he hb heq => by
        have h1 := hall e he hb
        rw [heq, hiun] at h1
        cases h1
      have hjT : T j ≠ true := fun e => by
        have h2 := behindB_spec hshut ops.size j oj hoj hall (hti j (Array.getElem?_eq_some_iff.1 hoj).1 e)
        rw [hiun] at h2
        cases h2
      have h2 := wpOp_putIf hoj (hfree j oj hoj hji hjun hnot) (fun cs b => hsel i oi cs b hi) (fun cs b => hsel j oj cs b hoj) hQ hy h1
      have hfree' : ∀ k ok, ops[k]? = some ok → k ≠ i → (listed.setIfInBounds j true).getD k true = false →
          (∀ e ∈ ok.after, Region.binds md e = true → e.on ≠ i) → oi.apart ops ok = true := fun k ok hk hki hun hno => by
        refine hfree k ok hk hki ?_ hno
        by_cases hjk : j = k
        · subst hjk; exact hjun
        · rw [getD_set_ne true hjk] at hun; exact hun
      refine wpOp_mono (fun a' w' h3 => ?_) h2
      have hCw : C w' := h3.2.1.resolve_left hjT
      refine ⟨.inr hCw, ih (listed.setIfInBounds j true) a' w' hfree' (hshut.set hj) (ready_mono hr (Ne.symm hji)) h3.1 hCw ?_⟩
      rw [Array.setIfInBounds_comm _ _ hji]
      exact h3.2.2

theorem wpAnyS_take {i : Nat} {oi : Oper} {v : Value} {fuel : Nat} {listed : Array Bool} {a : Act} {w : World} (hi : ops[i]? = some oi)
    (hs : (Region.noSelect ops && Region.free md ops listed i && (Region.ready md ops listed).contains i && shutB md ops listed && (List.range ops.size).all (fun j => !(T j) || behindB md ops i ops.size j)) = true)
    (hQ : ∀ c a w, Q (.panic c) (a.put oi.dst v) w → Q (.panic c) a w) (hC : C w) (hy : YieldsIf P ops C oi v a)
    (h : wpAnyS P md ops Q C T fuel (listed.setIfInBounds i true) (a.put oi.dst v) w) : wpAnyS P md ops Q C T (fuel + 1) listed a w := by
  simp only [Bool.and_eq_true] at hs
  obtain ⟨⟨⟨⟨h1, h2⟩, h3⟩, h4⟩, h5⟩ := hs
  refine wpAnyS_first hi (Region.noSelect_spec h1) hQ (fun j hj hT => ?_) fuel listed a w (Region.free_spec hi h2) (shutB_spec h4) (by simpa using h3) hy hC h
  have := List.all_eq_true.1 h5 j (List.mem_range.2 hj)
  simpa [hT] using this

/-- Just one may come. -/
theorem wpAnyS_step (i : Nat) {o : Oper} {fuel : Nat} {listed : Array Bool} {a : Act} {w : World} (hi : ops[i]? = some o) (hr : decide (Region.ready md ops listed = [i]) = true)
    (h : wpList P ops (Exit.then (fun a' w' => (T i = true ∨ C w') ∧ wpAnyS P md ops Q C T fuel (listed.setIfInBounds i true) a' w') Q) [o] a w) : wpAnyS P md ops Q C T (fuel + 1) listed a w := by
  have hr' := of_decide_eq_true hr
  refine ⟨fun h0 => (by rw [hr'] at h0; cases h0), fun j hj => ?_⟩
  rw [hr'] at hj
  obtain rfl : j = i := by simpa using hj
  exact wpOp_one hi h

theorem wpAnyS_done {listed : Array Bool} {a : Act} {w : World} (hr : decide (Region.ready md ops listed = []) = true) (h : Q .normal a w) : wpAnyS P md ops Q C T 0 listed a w := ⟨of_decide_eq_true hr, h⟩

/-- THE BEGINNING. -/
theorem wp_region_tills {id : Nat} {a : Act} {w : World} (C : World → Prop) (T : Nat → Bool) (hm : P.follows .mixedOrders = true)
    (h : wpAnyS P .any ops Q C T ops.size (Array.replicate ops.size false) a w.drew) : (Code.region id ops true).wp P Q a w :=
  wp_region_any hm (wpAny_of_S _ _ _ _ h)
end

end Go.Proofs.YtpbjianhkjjgkaaDoor

namespace Go.Proofs.YtpbjianhkjjgkaaDoor
open Go

theorem wpList_unguard {P : Program} {ops : Array Oper} {Q : Exit → Act → World → Prop} {rest : List Oper} {a : Act} {w : World} {d : Option Nat} {op : Op} {t : TypeId} {p : String} {af : Array Edge} {g : Option (Nat × Bool)}
    (hw : Region.wanted ⟨d, op, t, p, af, g⟩ (yielded ops a.tmps) = true) (h : wpList P ops Q (⟨d, op, t, p, af, none⟩ :: rest) a w) : wpList P ops Q (⟨d, op, t, p, af, g⟩ :: rest) a w := by
  have h0 : Region.wanted (⟨d, op, t, p, af, none⟩ : Oper) (yielded ops a.tmps) = true := by simp [Region.wanted]
  unfold wpList at h ⊢
  rw [if_pos h0] at h
  rw [if_pos hw]
  exact h

section
variable {P : Program} {ops : Array Oper} {Q : Exit → Act → World → Prop} {md : Region.Mode} {C : World → Prop} {d : Option Nat} {op : Op} {t : TypeId} {p : String} {af : Array Edge} {g : Option (Nat × Bool)}
/-- Just one may come, and its guard lets it run. -/
theorem wpAnyS_stepg {T : Nat → Bool} (i : Nat) {fuel : Nat} {listed : Array Bool} {a : Act} {w : World} (hi : ops[i]? = some ⟨d, op, t, p, af, g⟩) (hr : decide (Region.ready md ops listed = [i]) = true)
    (hw : Region.wanted ⟨d, op, t, p, af, g⟩ (yielded ops a.tmps) = true)
    (h : wpList P ops (Exit.then (fun a' w' => (T i = true ∨ C w') ∧ wpAnyS P md ops Q C T fuel (listed.setIfInBounds i true) a' w') Q) [⟨d, op, t, p, af, none⟩] a w) : wpAnyS P md ops Q C T (fuel + 1) listed a w :=
  wpAnyS_step i hi hr (wpList_unguard hw h)
theorem wpAnyT_stepg {T : Nat} (i : Nat) {fuel : Nat} {listed : Array Bool} {a : Act} {w : World} (hi : ops[i]? = some ⟨d, op, t, p, af, g⟩) (hr : decide (Region.ready md ops listed = [i]) = true)
    (hw : Region.wanted ⟨d, op, t, p, af, g⟩ (yielded ops a.tmps) = true)
    (h : wpList P ops (Exit.then (fun a' w' => (i = T ∨ C w') ∧ wpAnyT P md ops Q C T fuel (listed.setIfInBounds i true) a' w') Q) [⟨d, op, t, p, af, none⟩] a w) : wpAnyT P md ops Q C T (fuel + 1) listed a w :=
  wpAnyT_step i hi hr (wpList_unguard hw h)
end

end Go.Proofs.YtpbjianhkjjgkaaDoor

namespace Go.Proofs.YtpbjianhkjjgkaaDoor
open Go.RowKit

theorem getD_snoc_left (L : List (BitVec 32)) (x : BitVec 32) (i : Nat) (h : i < L.length) : (L ++ [x]).getD i 0 = L.getD i 0 := by
  simp [List.getD_eq_getElem?_getD, List.getElem?_append_left h]
theorem getD_snoc_last (L : List (BitVec 32)) (x : BitVec 32) : (L ++ [x]).getD L.length 0 = x := by
  simp [List.getD_eq_getElem?_getD]
theorem sched_mono (W : List (BitVec 32)) (k m i : Nat) (hk : k ≤ m) (h : i < W.length + k) : (sched W m).getD i 0 = (sched W k).getD i 0 := by
  induction m with
  | zero =>
    obtain rfl : k = 0 := by omega
    rfl
  | succ m ih =>
    by_cases e : k = m + 1
    · rw [e]
    · rw [sched]
      show (sched W m ++ [nextW (sched W m)]).getD i 0 = _
      rw [getD_snoc_left _ _ _ (by rw [sched_length]; omega), ih (by omega)]
theorem own16_at (p : List UInt8) (k i : Nat) (h : i < k) : (own16 p k).getD i 0 = wd ((p.drop (4 * i)).take 4) := by
  induction k with
  | zero => omega
  | succ k ih =>
    rw [own16]
    by_cases e : i = k
    · subst e
      have := getD_snoc_last (own16 p i) (wd ((p.drop (4 * i)).take 4))
      rw [own16_length] at this
      exact this
    · rw [getD_snoc_left _ _ _ (by rw [own16_length]; omega), ih (by omega)]
/-- A block's words: its own ones, and each that follows out of four ahead of it. -/
structure Words (blk : List UInt8) (S : List (BitVec 32)) : Prop where
  len : S.length = 64
  low : ∀ i, i < 16 → S.getD i 0 = wd ((blk.drop (4 * i)).take 4)
  high : ∀ i, i < 48 → S.getD (i + 16) 0 = S.getD i 0 + sm0 (S.getD (i + 1) 0) + S.getD (i + 9) 0 + sm1 (S.getD (i + 14) 0)
theorem sched_words (blk : List UInt8) : Words blk (sched (own16 blk 16) 48) := by
  refine ⟨by rw [sched_length, own16_length], fun i hi => ?_, fun i hi => ?_⟩
  · rw [sched_mono _ 0 48 i (by omega) (by rw [own16_length]; omega)]
    exact own16_at _ _ _ hi
  · have hl : (sched (own16 blk 16) i).length = 16 + i := by rw [sched_length, own16_length]
    rw [sched_mono _ (i + 1) 48 (i + 16) (by omega) (by rw [own16_length]; omega), sched]
    show (sched (own16 blk 16) i ++ [nextW (sched (own16 blk 16) i)]).getD (i + 16) 0 = _
    have := getD_snoc_last (sched (own16 blk 16) i) (nextW (sched (own16 blk 16) i))
    rw [hl, Nat.add_comm] at this
    rw [this]
    unfold nextW
    rw [hl, show 16 + i - 16 = i from by omega, show 16 + i - 15 = i + 1 from by omega, show 16 + i - 7 = i + 9 from by omega, show 16 + i - 2 = i + 14 from by omega]
    rw [sched_mono _ i 48 i (by omega) (by rw [own16_length]; omega), sched_mono _ i 48 (i + 1) (by omega) (by rw [own16_length]; omega), sched_mono _ i 48 (i + 9) (by omega) (by rw [own16_length]; omega), sched_mono _ i 48 (i + 14) (by omega) (by rw [own16_length]; omega)]
theorem take_getD (L S : List (BitVec 32)) (k j : Nat) (h : L.take k = S.take k) (hj : j < k) : L.getD j 0 = S.getD j 0 := by
  rw [← getD_take L k j hj, h, getD_take S k j hj]
theorem take_next (L S : List (BitVec 32)) (k : Nat) (h : L.take k = S.take k) (hL : k < L.length) (hS : k < S.length) : (L.set k (S.getD k 0)).take (k + 1) = S.take (k + 1) := by
  rw [set_take _ _ _ hL, h, List.take_succ_eq_append_getElem hS, List.getD_eq_getElem?_getD, List.getElem?_eq_getElem hS]
  rfl

/-- The eight words, those behind j moved on by one. -/
def moved (t : S8) (j : Nat) : List (BitVec 32) := t.list.take (j + 1) ++ (t.list.drop j).take (7 - j)
theorem moved_len (t : S8) (j : Nat) (h : j ≤ 7) : (moved t j).length = 8 := by simp [moved, S8.list]; omega
theorem moved_set (t : S8) (j : Nat) (h : j < 7) : (moved t (j + 1)).set (j + 1) ((moved t (j + 1)).getD j 0) = moved t j := by
  match j, h with
  | 0, _ | 1, _ | 2, _ | 3, _ | 4, _ | 5, _ | 6, _ => rfl
theorem moved_start (t : S8) : moved t 7 = t.list := rfl
theorem moved_end (t : S8) : moved t 0 = [t.a, t.a, t.b, t.c, t.d, t.e, t.f, t.g] := rfl

end Go.Proofs.YtpbjianhkjjgkaaDoor

namespace Go.Proofs.YtpbjianhkjjgkaaDoor
open Go

section
variable {P : Program} {ops : Array Oper} {C : World → Prop} {n : Nat}

/-- So many operations of the head are still to come, in whichever order; then L. -/
def Head (P : Program) (ops : Array Oper) (C : World → Prop) (n : Nat) (L : Array Bool → Act → Prop) : Nat → Array Bool → Act → Prop
  | 0, done, a => L done a
  | m + 1, done, a => Region.ready .any ops done ≠ [] ∧ ∀ i ∈ Region.ready .any ops done, i < n ∧ qOp P ops C i (Head P ops C n L m (done.setIfInBounds i true)) a

theorem Head.toAny {L : Array Bool → Act → Prop} {g : Nat} {R : Exit → Act → World → Prop} (hL : ∀ done a w, C w → L done a → wpAny P .any ops R g done a w) (m : Nat) :
    ∀ (done : Array Bool) (a : Act) (w : World), C w → Head P ops C n L m done a → wpAny P .any ops R (m + g) done a w := by
  induction m with
  | zero =>
    intro done a w hw h
    rw [Nat.zero_add]
    exact hL done a w hw h
  | succ m ih =>
    intro done a w hw h
    have e : m + 1 + g = (m + g) + 1 := by omega
    rw [e]
    exact ⟨fun h0 => absurd h0 h.1, fun i hi => wpOp_of_qOp hw (fun a' w' hw' hh => ih _ a' w' hw' hh) (h.2 i hi).2⟩

/-- One that may come now may be taken ahead of all others. -/
theorem Head.take {L : Array Bool → Act → Prop} {i : Nat} {o : Oper} {v : Value} (hi : ops[i]? = some o) (hsel : ∀ (j : Nat) (x : Oper) cs b, ops[j]? = some x → x.op ≠ .select cs b)
    (hs : Region.sinkB .any ops n = true) (hc : Region.chainB .any ops n = true) (hn : n < ops.size) (hin : i < n) (hend : ∀ done a, L done a → ∀ j ∈ Region.ready .any ops done, n ≤ j) (m : Nat) :
    ∀ (done : Array Bool) (a : Act), HeadInv .any ops n done →
      (∀ j x, ops[j]? = some x → j ≠ i → done.getD j true = false → (∀ e ∈ x.after, Region.binds .any e = true → e.on ≠ i) → o.apart ops x = true) →
      i ∈ Region.ready .any ops done → YieldsIn P ops C o v a → Head P ops C n L m (done.setIfInBounds i true) (a.put o.dst v) → Head P ops C n L (m + 1) done a := by
  induction m with
  | zero =>
    intro done a inv _ hr hy H
    have hun := (mem_ready.1 hr).1
    refine ⟨fun h => (by rw [h] at hr; cases hr), fun j hj => ?_⟩
    have hjn : j < n := Nat.lt_of_not_le fun hle => tail_waits hs hc hn inv _ i rfl hin hun j hle hj
    refine ⟨hjn, ?_⟩
    by_cases e : j = i
    · subst e
      exact hy.qOp hi H
    · exact absurd (hend _ _ H j (ready_mono hj e)) (by omega)
  | succ m ih =>
    intro done a inv hfree hr hy H
    have hun := (mem_ready.1 hr).1
    refine ⟨fun h => (by rw [h] at hr; cases hr), fun j hj => ?_⟩
    have hjn : j < n := Nat.lt_of_not_le fun hle => tail_waits hs hc hn inv _ i rfl hin hun j hle hj
    refine ⟨hjn, ?_⟩
    by_cases e : j = i
    · subst e
      exact hy.qOp hi H
    · obtain ⟨hjun, x, hx, hall⟩ := mem_ready.1 hj
      have hnot : ∀ d ∈ x.after, Region.binds .any d = true → d.on ≠ i := by
        intro d hd hb heq
        have := hall d hd hb
        rw [heq, getD_both hun] at this
        cases this
      have step := qOp_put hx (hfree j x hx e hjun hnot) (fun cs b => hsel i o cs b hi) (fun cs b => hsel j x cs b hx) hy (H.2 j (ready_mono hj e)).2
      refine qOp_mono (fun a' h3 => ih (done.setIfInBounds j true) a' (inv.set hj hjn) ?_ (ready_mono hr (Ne.symm e)) h3.1 ?_) step
      · intro k y hk hki hunk hno
        refine hfree k y hk hki ?_ hno
        by_cases ek : j = k
        · subst ek
          exact hjun
        · rw [getD_set_ne true ek] at hunk
          exact hunk
      · rw [Array.setIfInBounds_comm _ _ e]
        exact h3.2

theorem Head.walk {g : Nat} {Z : Act → Prop} (hsel : Region.noSelect ops = true) (hs : Region.sinkB .any ops n = true) (hc : Region.chainB .any ops n = true) (hn : n < ops.size) (l : List Oper) :
    ∀ (k : Nat) (done : Array Bool) (a : Act), (∀ j, j < l.length → l[j]? = ops[k + j]?) → k + l.length = n → HeadInv .any ops n done → Region.lexHead .any ops g l.length k done = true → wpQuiet P ops C Z l a →
      Head P ops C n (fun done' a' => Region.seqB .any ops g n done' = true ∧ Z a') l.length done a := by
  induction l with
  | nil =>
    intro k done a _ hk _ hB h
    obtain rfl : k = n := by simpa using hk
    exact ⟨by simpa [Region.lexHead] using hB, h⟩
  | cons o l ih =>
    intro k done a hl hk inv hB h
    have h0 : ops[k]? = some o := by simpa using (hl 0 (by simp)).symm
    simp only [List.length_cons, Region.lexHead, Bool.and_eq_true] at hB
    rw [List.length_cons] at hk
    have hr : k ∈ Region.ready .any ops done := by simpa using hB.1.1
    have hq : qOp P ops C k (wpQuiet P ops C Z l) a := by unfold qOp; simp only [h0]; exact h
    obtain ⟨v, hy, hK⟩ := yieldsIn_of_qOp h0 hq
    refine Head.take h0 (Region.noSelect_spec hsel) hs hc hn (by omega) (fun _ _ hL => seqB_ready hL.1) l.length done a inv (Region.free_spec h0 hB.1.2) hr hy (ih (k + 1) _ _ (fun j hj => ?_) (by omega) (inv.set hr (by omega)) hB.2 hK)
    have := hl (j + 1) (by simp; omega)
    rw [List.getElem?_cons_succ] at this
    rw [this]
    congr 1
    omega
end

/-- THE LAW: the first n operations quiet in the class C, the others one behind the other. -/
theorem wp_region_quiet_tail {P : Program} {id : Nat} {Q : Exit → Act → World → Prop} {a : Act} {w : World} {l : List Oper} (C : World → Prop) (n : Nat) (hm : P.follows .mixedOrders = true) (hB : Region.lexTailB .any l.toArray n = true)
    (hC : C w.drew) (h : wpQuiet P l.toArray C (fun a' => ∀ w', C w' → wpList P l.toArray Q (l.drop n) a' w') (l.take n) a) : (Code.region id l.toArray true).wp P Q a w := by
  simp only [Region.lexTailB, Bool.and_eq_true, decide_eq_true_eq] at hB
  obtain ⟨⟨⟨⟨hsel, hn⟩, hs⟩, hc⟩, hlex⟩ := hB
  have hnl : n < l.length := by simpa using hn
  have ht : (l.take n).length = n := by rw [List.length_take]; omega
  have hd : (l.drop n).length = l.toArray.size - n := by simp
  have inv0 : HeadInv .any l.toArray n (Array.replicate l.toArray.size false) :=
    ⟨by simp, fun j x _ hl => (by rw [getD_replicate_false] at hl; cases hl), fun t _ htt => getD_in (by simpa using htt) (getD_replicate_false _ _)⟩
  have H := Head.walk (P := P) (C := C) (g := l.toArray.size - n) hsel hs hc hn (l.take n) 0 _ a (fun j hj => by rw [ht] at hj; simp [hj]) (by rw [ht]; omega) inv0 (by rw [ht]; exact hlex) h
  have R := Head.toAny (g := l.toArray.size - n) (R := Q) (fun done a' w' hw' hL => by
    have := wpAny_of_seq (md := .any) (Q' := Q) (l.drop n) n done a' w' (fun j => by simp [List.getElem?_drop]) (by rw [hd]; exact hL.1) (hL.2 w' hw')
    rwa [hd] at this) _ _ _ w.drew hC H
  rw [ht, show n + (l.toArray.size - n) = l.toArray.size from by omega] at R
  exact wp_region_any hm R

end Go.Proofs.YtpbjianhkjjgkaaDoor
