/-
  A region that draws its order: the first n operations yield one value in every world of a class and stay in the class, and all others wait for the last of them; what is left is asked at the state behind them, in whichever order it may come.
  And: what is left, where just one operation may come at a time, by its numbers.
-/
import Derived.StillTailTactics
import Derived.Deep.Quiet
import Derived.Deep.QuietTactic
import Derived.BigQuiet
namespace Go.Proofs.YtipfhcljdginoaaDoor
open Go

section
variable {P : Program} {ops : Array Oper} {C : World → Prop} {n : Nat}

/-- Each operation from n on waits for number n - 1, or for one between. -/
def restWaits (ops : Array Oper) (n : Nat) : Bool :=
  (List.range ops.size).all fun t => decide (t < n) || (List.range t).any fun j => decide (n - 1 ≤ j) && Region.waitsFor .any ops t j
/-- All of the first n marked. -/
def marks : Nat → Nat → Array Bool → Array Bool
  | 0, _, d => d
  | f + 1, k, d => marks f (k + 1) (d.setIfInBounds k true)
/-- They may come in the text's order. -/
def headB (ops : Array Oper) : Nat → Nat → Array Bool → Bool
  | 0, _, _ => true
  | f + 1, k, d => (Region.ready .any ops d).contains k && Region.free .any ops d k && headB ops f (k + 1) (d.setIfInBounds k true)

theorem last_open (hs : Region.sinkB .any ops (n - 1) = true) {d : Array Bool} (inv : HeadInv .any ops n d) (hn : n ≤ ops.size) (m : Nat) : ∀ i, n - 1 - i = m → i < n → d.getD i true = false → d.getD (n - 1) true = false := by
  induction m using Nat.strongRecOn with
  | _ m ih =>
    intro i hm hi hun
    by_cases e : i = n - 1
    · rw [← e]; exact hun
    · have h1 := List.all_eq_true.1 hs i (List.mem_range.2 (by omega))
      obtain ⟨j, hj, hj2⟩ := List.any_eq_true.1 h1
      simp only [Bool.and_eq_true, decide_eq_true_eq] at hj2
      have hjn := List.mem_range.1 hj
      obtain ⟨oj, hoj, x, hx, hb, hon⟩ := Region.waitsFor_spec hj2.2
      cases hl : d.getD j false with
      | true =>
        have := inv.closed j oj hoj hl x hx hb
        rw [hon, getD_both hun] at this
        cases this
      | false => exact ih (n - 1 - j) (by omega) j rfl (by omega) (getD_in (by rw [inv.size]; omega) hl)

theorem rest_waits (hs : Region.sinkB .any ops (n - 1) = true) (hr : restWaits ops n = true) {d : Array Bool} (inv : HeadInv .any ops n d) (hn : n ≤ ops.size) (i : Nat) (hi : i < n) (hun : d.getD i true = false) (t : Nat) (ht : n ≤ t) : t ∉ Region.ready .any ops d := by
  intro hrd
  obtain ⟨_, ot, hot, hall⟩ := mem_ready.1 hrd
  have htl : t < ops.size := (Array.getElem?_eq_some_iff.1 hot).1
  have h1 := List.all_eq_true.1 hr t (List.mem_range.2 htl)
  simp only [Bool.or_eq_true, decide_eq_true_eq] at h1
  rcases h1 with h1 | h1
  · omega
  · obtain ⟨j, hj, hj2⟩ := List.any_eq_true.1 h1
    simp only [Bool.and_eq_true, decide_eq_true_eq] at hj2
    have hjt := List.mem_range.1 hj
    obtain ⟨o', ho', x, hx, hb, hon⟩ := Region.waitsFor_spec hj2.2
    obtain rfl : o' = ot := Option.some.inj (ho'.symm.trans hot)
    have h2 := hall x hx hb
    rw [hon] at h2
    have h3 : d.getD j true = false := by
      by_cases e : j = n - 1
      · rw [e]; exact last_open hs inv hn _ i rfl hi hun
      · exact inv.tail j (by omega) (by omega)
    rw [getD_both h3] at h2
    cases h2

/-- So many of the head are still to come, in whichever order; then L. -/
def HeadQ (P : Program) (ops : Array Oper) (C : World → Prop) (n : Nat) (L : Array Bool → Act → Prop) : Nat → Array Bool → Act → Prop
  | 0, d, a => L d a
  | m + 1, d, a => Region.ready .any ops d ≠ [] ∧ ∀ i ∈ Region.ready .any ops d, i < n ∧ qOp P ops C i (HeadQ P ops C n L m (d.setIfInBounds i true)) a

theorem HeadQ.toAny {L : Array Bool → Act → Prop} {g : Nat} {R : Exit → Act → World → Prop} (hL : ∀ d a w, C w → L d a → wpAny P .any ops R g d a w) (m : Nat) :
    ∀ (d : Array Bool) (a : Act) (w : World), C w → HeadQ P ops C n L m d a → wpAny P .any ops R (m + g) d a w := by
  induction m with
  | zero =>
    intro d a w hw h
    rw [Nat.zero_add]
    exact hL d a w hw h
  | succ m ih =>
    intro d a w hw h
    have e : m + 1 + g = (m + g) + 1 := by omega
    rw [e]
    exact ⟨fun h0 => absurd h0 h.1, fun i hi => wpOp_of_qOp hw (fun a' w' hw' hh => ih _ a' w' hw' hh) (h.2 i hi).2⟩

theorem HeadQ.take {L : Array Bool → Act → Prop} {i : Nat} {o : Oper} {v : Value} (hi : ops[i]? = some o) (hsel : ∀ (j : Nat) (x : Oper) cs b, ops[j]? = some x → x.op ≠ .select cs b)
    (hw : ∀ d, HeadInv .any ops n d → ∀ i, i < n → d.getD i true = false → ∀ t, n ≤ t → t ∉ Region.ready .any ops d) (hin : i < n) (hend : ∀ d a, L d a → ∀ j ∈ Region.ready .any ops d, n ≤ j) (m : Nat) :
    ∀ (d : Array Bool) (a : Act), HeadInv .any ops n d →
      (∀ j x, ops[j]? = some x → j ≠ i → d.getD j true = false → (∀ e ∈ x.after, Region.binds .any e = true → e.on ≠ i) → o.apart ops x = true) →
      i ∈ Region.ready .any ops d → YieldsIn P ops C o v a → HeadQ P ops C n L m (d.setIfInBounds i true) (a.put o.dst v) → HeadQ P ops C n L (m + 1) d a := by
  induction m with
  | zero =>
    intro d a inv _ hr hy H
    have hun := (mem_ready.1 hr).1
    refine ⟨fun h => (by rw [h] at hr; cases hr), fun j hj => ?_⟩
    have hjn : j < n := Nat.lt_of_not_le fun hle => hw d inv i hin hun j hle hj
    refine ⟨hjn, ?_⟩
    by_cases e : j = i
    · subst e
      exact hy.qOp hi H
    · exact absurd (hend _ _ H j (ready_mono hj e)) (by omega)
  | succ m ih =>
    intro d a inv hfree hr hy H
    have hun := (mem_ready.1 hr).1
    refine ⟨fun h => (by rw [h] at hr; cases hr), fun j hj => ?_⟩
    have hjn : j < n := Nat.lt_of_not_le fun hle => hw d inv i hin hun j hle hj
    refine ⟨hjn, ?_⟩
    by_cases e : j = i
    · subst e
      exact hy.qOp hi H
    · obtain ⟨hjun, x, hx, hall⟩ := mem_ready.1 hj
      have hnot : ∀ e ∈ x.after, Region.binds .any e = true → e.on ≠ i := by
        intro y hy' hb heq
        have := hall y hy' hb
        rw [heq, getD_both hun] at this
        cases this
      have step := qOp_put hx (hfree j x hx e hjun hnot) (fun cs b => hsel i o cs b hi) (fun cs b => hsel j x cs b hx) hy (H.2 j (ready_mono hj e)).2
      refine qOp_mono (fun a' h3 => ih (d.setIfInBounds j true) a' (inv.set hj hjn) ?_ (ready_mono hr (Ne.symm e)) h3.1 ?_) step
      · intro k y hk hki hunk hno
        refine hfree k y hk hki ?_ hno
        by_cases ek : j = k
        · subst ek
          exact hjun
        · rw [getD_set_ne true ek] at hunk
          exact hunk
      · rw [Array.setIfInBounds_comm _ _ e]
        exact h3.2

theorem HeadQ.walk {Z : Act → Prop} {fin : Array Bool} (hsel : Region.noSelect ops = true) (hw : ∀ d, HeadInv .any ops n d → ∀ i, i < n → d.getD i true = false → ∀ t, n ≤ t → t ∉ Region.ready .any ops d)
    (hfin : ∀ j ∈ Region.ready .any ops fin, n ≤ j) (l : List Oper) :
    ∀ (k : Nat) (d : Array Bool) (a : Act), (∀ j, j < l.length → l[j]? = ops[k + j]?) → k + l.length = n → HeadInv .any ops n d → headB ops l.length k d = true → marks l.length k d = fin → wpQuiet P ops C Z l a →
      HeadQ P ops C n (fun d' a' => d' = fin ∧ Z a') l.length d a := by
  induction l with
  | nil =>
    intro k d a _ hk _ _ hm h
    exact ⟨hm, h⟩
  | cons o l ih =>
    intro k d a hl hk inv hB hm h
    have h0 : ops[k]? = some o := by simpa using (hl 0 (by simp)).symm
    simp only [List.length_cons, headB, Bool.and_eq_true] at hB
    rw [List.length_cons] at hk hm
    have hr : k ∈ Region.ready .any ops d := by simpa using hB.1.1
    have hq : qOp P ops C k (wpQuiet P ops C Z l) a := by unfold qOp; simp only [h0]; exact h
    obtain ⟨v, hy, hK⟩ := yieldsIn_of_qOp h0 hq
    refine HeadQ.take h0 (Region.noSelect_spec hsel) hw (by omega) (fun _ _ hL => by rw [hL.1]; exact hfin) l.length d a inv (Region.free_spec h0 hB.1.2) hr hy (ih (k + 1) _ _ (fun j hj => ?_) (by omega) (inv.set hr (by omega)) hB.2 hm hK)
    have := hl (j + 1) (by simp; omega)
    rw [List.getElem?_cons_succ] at this
    rw [this]
    congr 1
    omega

/-- What is left, one at a time, by numbers. -/
def onlyB (ops : Array Oper) : List Nat → Array Bool → Bool
  | [], d => (Region.ready .any ops d).isEmpty
  | i :: is, d => decide (Region.ready .any ops d = [i]) && onlyB ops is (d.setIfInBounds i true)
theorem wpAny_only {Q : Exit → Act → World → Prop} (is : List Nat) : ∀ (l : List Oper) (d : Array Bool) (a : Act) (w : World), is.map (fun i => ops[i]?) = l.map some → onlyB ops is d = true → wpList P ops Q l a w → wpAny P .any ops Q is.length d a w := by
  induction is with
  | nil =>
    intro l d a w hl hB h
    obtain rfl : l = [] := by cases l with
      | nil => rfl
      | cons x l => simp at hl
    exact ⟨by simpa [onlyB] using hB, h⟩
  | cons i is ih =>
    intro l d a w hl hB h
    cases l with
    | nil => simp at hl
    | cons o l =>
      simp only [List.map_cons, List.cons.injEq] at hl
      simp only [onlyB, Bool.and_eq_true, decide_eq_true_eq] at hB
      refine ⟨fun h1 => (by rw [hB.1] at h1; cases h1), fun j hj => ?_⟩
      rw [hB.1] at hj
      obtain rfl : j = i := by simpa using hj
      have hw : wpOp P ops Q j (wpList P ops Q l) a w := by unfold wpOp; simp only [hl.1]; exact h
      exact wpOp_mono (fun a' w' h' => ih l _ a' w' hl.2 hB.2 h') hw
theorem map_filterMap (is : List Nat) (h : is.all (fun i => decide (i < ops.size)) = true) : is.map (fun i => ops[i]?) = (is.filterMap (fun i => ops[i]?)).map some := by
  induction is with
  | nil => rfl
  | cons i is ih =>
    simp only [List.all_cons, Bool.and_eq_true, decide_eq_true_eq] at h
    rw [List.map_cons, ih h.2, Array.getElem?_eq_getElem h.1, List.filterMap_cons, Array.getElem?_eq_getElem h.1]
    rfl
theorem wpAny_only' {Q : Exit → Act → World → Prop} (is : List Nat) (d : Array Bool) (a : Act) (w : World) (h1 : is.all (fun i => decide (i < ops.size)) = true) (h2 : onlyB ops is d = true) (h : wpList P ops Q (is.filterMap (fun i => ops[i]?)) a w) : wpAny P .any ops Q is.length d a w :=
  wpAny_only is _ d a w (map_filterMap is h1) h2 h
end

/-- THE LAW: a quiet head; the rest from the state behind it. -/
theorem wp_region_quiet_head {P : Program} {id : Nat} {Q : Exit → Act → World → Prop} {a : Act} {w : World} {l : List Oper} (C : World → Prop) (n : Nat) (fin : Array Bool) (hm : P.follows .mixedOrders = true)
    (hB : (Region.noSelect l.toArray && decide (n ≤ l.toArray.size) && Region.sinkB .any l.toArray (n - 1) && restWaits l.toArray n && headB l.toArray n 0 (Array.replicate l.toArray.size false) && decide (marks n 0 (Array.replicate l.toArray.size false) = fin) && (Region.ready .any l.toArray fin).all (fun j => decide (n ≤ j))) = true)
    (hC : C w.drew) (h : wpQuiet P l.toArray C (fun a' => ∀ w', C w' → wpAny P .any l.toArray Q (l.toArray.size - n) fin a' w') (l.take n) a) : (Code.region id l.toArray true).wp P Q a w := by
  simp only [Bool.and_eq_true, decide_eq_true_eq] at hB
  obtain ⟨⟨⟨⟨⟨⟨hsel, hn⟩, hs⟩, hr⟩, hhd⟩, hmk⟩, hend⟩ := hB
  have hnl : n ≤ l.length := by simpa using hn
  have ht : (l.take n).length = n := by rw [List.length_take]; omega
  have inv0 : HeadInv .any l.toArray n (Array.replicate l.toArray.size false) :=
    ⟨by simp, fun j x _ hl => (by rw [getD_replicate_false] at hl; cases hl), fun t _ htt => getD_in (by simpa using htt) (getD_replicate_false _ _)⟩
  have H := HeadQ.walk (P := P) (C := C) (fin := fin) hsel (fun d inv i hi hun t htt => rest_waits hs hr inv hn i hi hun t htt) (fun j hj => by simpa using List.all_eq_true.1 hend j hj) (l.take n) 0 _ a (fun j hj => by rw [ht] at hj; simp [hj]) (by rw [ht]; omega) inv0 (by rw [ht]; exact hhd) (by rw [ht]; exact hmk) h
  have R := HeadQ.toAny (g := l.toArray.size - n) (R := Q) (fun d a' w' hw' hL => by rw [hL.1]; exact hL.2 w' hw') _ _ _ w.drew hC H
  rw [ht, show n + (l.toArray.size - n) = l.toArray.size from by omega] at R
  exact wp_region_any hm R

end Go.Proofs.YtipfhcljdginoaaDoor
