/-
  A region that draws its order, by an invariant over what is done: each of the first n operations keeps it, whichever comes; all others wait for every one of the first n.
-/
import Derived.Test.YtipfhcljdginoaaDoorQH
namespace Go.Proofs.YtipfhcljdginoaaDoor
open Go

section
variable {P : Program} {ops : Array Oper} {n : Nat} {Q : Exit → Act → World → Prop}

/-- t waits for i, or for one that does, and so on. -/
def reach (ops : Array Oper) : Nat → Nat → Nat → Bool
  | 0, _, _ => false
  | f + 1, t, i => Region.waitsFor .any ops t i || (List.range t).any fun j => Region.waitsFor .any ops t j && reach ops f j i
theorem reach_listed {d : Array Bool} (inv : HeadInv .any ops n d) {i : Nat} (f : Nat) : ∀ (t : Nat) (o : Oper), ops[t]? = some o → (∀ e ∈ o.after, Region.binds .any e = true → d.getD e.on false = true) → reach ops f t i = true → d.getD i false = true := by
  induction f with
  | zero => intro t o _ _ h; cases h
  | succ f ih =>
    intro t o ho hdep h
    simp only [reach, Bool.or_eq_true] at h
    rcases h with h | h
    · obtain ⟨o', ho', x, hx, hb, hon⟩ := Region.waitsFor_spec h
      obtain rfl : o' = o := Option.some.inj (ho'.symm.trans ho)
      rw [← hon]
      exact hdep x hx hb
    · obtain ⟨j, _, hj⟩ := List.any_eq_true.1 h
      simp only [Bool.and_eq_true] at hj
      obtain ⟨o', ho', x, hx, hb, hon⟩ := Region.waitsFor_spec hj.1
      obtain rfl : o' = o := Option.some.inj (ho'.symm.trans ho)
      have hl := hdep x hx hb
      rw [hon] at hl
      have hjs : j < ops.size := by
        have : j < d.size := by
          rcases Nat.lt_or_ge j d.size with h' | h'
          · exact h'
          · simp [h'] at hl
        rw [← inv.size]
        exact this
      exact ih j ops[j] (Array.getElem?_eq_getElem hjs) (inv.closed j _ (Array.getElem?_eq_getElem hjs) hl) hj.2

/-- Each operation from n on waits for all of the first n; each of these waits for earlier ones alone. -/
def restAll (ops : Array Oper) (n : Nat) : Bool :=
  (List.range ops.size).all fun t => decide (t < n) || (List.range n).all fun j => reach ops 4 t j
def backB (ops : Array Oper) (n : Nat) : Bool :=
  (List.range n).all fun i => match ops[i]? with
    | some o => o.after.all fun e => decide (e.on < i)
    | none => false

theorem wpAny_more : ∀ (g : Nat) (d : Array Bool) (a : Act) (w : World), wpAny P .any ops Q g d a w → wpAny P .any ops Q (g + 1) d a w := by
  intro g
  induction g with
  | zero =>
    intro d a w h
    refine ⟨fun _ => h.2, fun i hi => ?_⟩
    rw [h.1] at hi
    cases hi
  | succ g ih =>
    intro d a w h
    exact ⟨h.1, fun i hi => wpOp_mono (fun a' w' h' => ih _ a' w' h') (h.2 i hi)⟩
theorem wpAny_plus (k g : Nat) (d : Array Bool) (a : Act) (w : World) (h : wpAny P .any ops Q g d a w) : wpAny P .any ops Q (k + g) d a w := by
  induction k with
  | zero => rw [Nat.zero_add]; exact h
  | succ k ih =>
    have := wpAny_more _ _ _ _ ih
    rw [show k + 1 + g = k + g + 1 from by omega]
    exact this

/-- How many of the first n are still to come. -/
def togo (d : Array Bool) (l : List Nat) : Nat := l.countP fun i => !d.getD i true
theorem togo_le (d : Array Bool) (j : Nat) (l : List Nat) : togo (d.setIfInBounds j true) l ≤ togo d l := by
  refine List.countP_mono_left fun i _ h => ?_
  by_cases e : j = i
  · subst e
    simp only [Bool.not_eq_true', Array.getD_eq_getD_getElem?] at h ⊢
    rcases Nat.lt_or_ge j d.size with h' | h'
    · simp [h'] at h
    · simp [h'] at h
  · rw [getD_set_ne true e] at h
    exact h
theorem togo_lt (d : Array Bool) (j : Nat) (hj : d.getD j true = false) : ∀ l : List Nat, j ∈ l → togo (d.setIfInBounds j true) l < togo d l := by
  intro l
  induction l with
  | nil => intro h; cases h
  | cons i l ih =>
    intro h
    have h2 := togo_le d j l
    unfold togo at *
    rw [List.countP_cons, List.countP_cons]
    by_cases e : i = j
    · subst e
      have h3 : (d.setIfInBounds i true).getD i true = true := by
        rcases Nat.lt_or_ge i d.size with h' | h'
        · simp [h']
        · simp [h']
      rw [h3, hj]
      simp only [Bool.not_true, Bool.not_false, if_true, Bool.false_eq_true, if_false]
      omega
    · have h4 := ih (by rcases List.mem_cons.1 h with h | h
                        · exact absurd h.symm e
                        · exact h)
      rw [getD_set_ne true (Ne.symm e)]
      omega

theorem wpAny_inv {I : Array Bool → Act → World → Prop} {g : Nat} (hn : n ≤ ops.size) (hall : restAll ops n = true) (hback : backB ops n = true)
    (hstep : ∀ d a w, I d a w → ∀ i o, i < n → ops[i]? = some o → (∀ e ∈ o.after, Region.binds .any e = true → d.getD e.on false = true) → wpOp P ops Q i (I (d.setIfInBounds i true)) a w)
    (hfin : ∀ d a w, HeadInv .any ops n d → (∀ i, i < n → d.getD i true = true) → I d a w → wpAny P .any ops Q g d a w) (m : Nat) :
    ∀ (d : Array Bool) (a : Act) (w : World), HeadInv .any ops n d → togo d (List.range n) ≤ m → I d a w → wpAny P .any ops Q (m + g) d a w := by
  induction m with
  | zero =>
    intro d a w inv hc hI
    rw [Nat.zero_add]
    refine hfin d a w inv (fun i hi => ?_) hI
    have h0 := List.countP_eq_zero.1 (Nat.le_zero.1 hc) i (List.mem_range.2 hi)
    simpa using h0
  | succ m ih =>
    intro d a w inv hc hI
    by_cases hex : ∃ i, i < n ∧ d.getD i true = false
    · have hmin : ∃ i, i < n ∧ d.getD i true = false ∧ ∀ j, j < i → d.getD j true = true := by
        obtain ⟨i, hi, hun⟩ := hex
        induction i using Nat.strongRecOn with
        | _ i ihi =>
          by_cases hj : ∃ j, j < i ∧ d.getD j true = false
          · obtain ⟨j, hji, hju⟩ := hj
            exact ihi j hji (by omega) hju
          · refine ⟨i, hi, hun, fun j hji => ?_⟩
            cases hd : d.getD j true with
            | true => rfl
            | false => exact absurd ⟨j, hji, hd⟩ hj
      obtain ⟨i, hi, hun, hlow⟩ := hmin
      rw [show m + 1 + g = (m + g) + 1 from by omega]
      refine ⟨fun h0 => ?_, fun j hj => ?_⟩
      · have hb := List.all_eq_true.1 hback i (List.mem_range.2 hi)
        have hio : ops[i]? = some ops[i] := Array.getElem?_eq_getElem (by omega)
        rw [hio] at hb
        have hr : i ∈ Region.ready .any ops d := by
          refine mem_ready.2 ⟨hun, _, hio, fun e he _ => ?_⟩
          have h1 : decide (e.on < i) = true := Array.all_eq_true_iff_forall_mem.1 hb e he
          have h2 := hlow _ (of_decide_eq_true h1)
          cases hd : d.getD e.on false with
          | true => rfl
          | false =>
            have := getD_in (by rw [inv.size]; have := of_decide_eq_true h1; omega) hd
            rw [this] at h2
            cases h2
        rw [h0] at hr
        cases hr
      · obtain ⟨hju, o, ho, hdep⟩ := mem_ready.1 hj
        have hjs : j < ops.size := (Array.getElem?_eq_some_iff.1 ho).1
        have hjn : j < n := Nat.lt_of_not_le fun hle => by
          have h1 := List.all_eq_true.1 hall j (List.mem_range.2 hjs)
          simp only [Bool.or_eq_true, decide_eq_true_eq] at h1
          rcases h1 with h1 | h1
          · omega
          · have h2 := List.all_eq_true.1 h1 i (List.mem_range.2 hi)
            have h3 := reach_listed inv 4 j o ho hdep h2
            rw [getD_both hun] at h3
            cases h3
        refine wpOp_mono (fun a' w' h' => ih _ a' w' (inv.set hj hjn) ?_ h') (hstep d a w hI j o hjn ho hdep)
        have := togo_lt d j hju (List.range n) (List.mem_range.2 hjn)
        omega
    · refine wpAny_plus (m + 1) g d a w (hfin d a w inv (fun i hi => ?_) hI)
      cases hd : d.getD i true with
      | true => rfl
      | false => exact absurd ⟨i, hi, hd⟩ hex
end

/-- THE LAW. -/
theorem wp_region_inv {P : Program} {id : Nat} {Q : Exit → Act → World → Prop} {a : Act} {w : World} {l : List Oper} (n : Nat) (I : Array Bool → Act → World → Prop) (hm : P.follows .mixedOrders = true)
    (hB : (decide (n ≤ l.toArray.size) && restAll l.toArray n && backB l.toArray n) = true)
    (h0 : I (Array.replicate l.toArray.size false) a w.drew)
    (hstep : ∀ d a w, I d a w → ∀ i o, i < n → l.toArray[i]? = some o → (∀ e ∈ o.after, Region.binds .any e = true → d.getD e.on false = true) → wpOp P l.toArray Q i (I (d.setIfInBounds i true)) a w)
    (hfin : ∀ a w, I (marks n 0 (Array.replicate l.toArray.size false)) a w → wpAny P .any l.toArray Q (l.toArray.size - n) (marks n 0 (Array.replicate l.toArray.size false)) a w) : (Code.region id l.toArray true).wp P Q a w := by
  simp only [Bool.and_eq_true, decide_eq_true_eq] at hB
  obtain ⟨⟨hn, hall⟩, hback⟩ := hB
  have inv0 : HeadInv .any l.toArray n (Array.replicate l.toArray.size false) :=
    ⟨by simp, fun j x _ hl => (by rw [getD_replicate_false] at hl; cases hl), fun t _ htt => getD_in (by simpa using htt) (getD_replicate_false _ _)⟩
  have hmk : ∀ (f k : Nat) (d : Array Bool), (marks f k d).size = d.size ∧ ∀ j, (marks f k d).getD j true = if k ≤ j ∧ j < k + f then true else d.getD j true := by
    intro f
    induction f with
    | zero =>
      intro k d
      refine ⟨rfl, fun j => ?_⟩
      rw [if_neg (by omega)]
      rfl
    | succ f ih =>
      intro k d
      obtain ⟨h1, h2⟩ := ih (k + 1) (d.setIfInBounds k true)
      refine ⟨by show (marks f (k + 1) _).size = _; rw [h1]; simp, fun j => ?_⟩
      show (marks f (k + 1) (d.setIfInBounds k true)).getD j true = _
      rw [h2]
      by_cases e : k = j
      · subst e
        rw [if_neg (by omega), if_pos (by omega)]
        rcases Nat.lt_or_ge k d.size with h' | h'
        · simp [h']
        · simp [h']
      · rw [getD_set_ne true e]
        by_cases hh : k ≤ j ∧ j < k + (f + 1)
        · rw [if_pos hh, if_pos (by omega)]
        · rw [if_neg hh, if_neg (by omega)]
  have R := wpAny_inv (P := P) (Q := Q) (I := I) (g := l.toArray.size - n) hn hall hback hstep (fun d a w inv hdone hI => by
    have e : d = marks n 0 (Array.replicate l.toArray.size false) := by
      obtain ⟨h1, h2⟩ := hmk n 0 (Array.replicate l.toArray.size false)
      refine Array.ext (by rw [h1, inv.size]; simp) fun j hj1 hj2 => ?_
      have h3 := h2 j
      have h4 : d.getD j true = (marks n 0 (Array.replicate l.toArray.size false)).getD j true := by
        rw [h3]
        by_cases hjn : j < n
        · rw [if_pos (by omega), hdone j hjn]
        · rw [if_neg (by omega), inv.tail j (by omega) (by rw [← inv.size]; exact hj1)]
          symm
          exact getD_in (by rw [inv.size] at hj1; simpa using hj1) (getD_replicate_false _ _)
      rw [Array.getD_eq_getD_getElem?, Array.getD_eq_getD_getElem?, Array.getElem?_eq_getElem hj1, Array.getElem?_eq_getElem hj2] at h4
      exact h4
    subst e
    exact hfin a w hI) n (Array.replicate l.toArray.size false) a w.drew inv0 (by
      unfold togo
      exact Nat.le_trans List.countP_le_length (by simp)) h0
  rw [show n + (l.toArray.size - n) = l.toArray.size from by omega] at R
  exact wp_region_any hm R

theorem upon_then {P : Program} {ops : Array Oper} {Q : Exit → Act → World → Prop} {K : Act → World → Prop} {a : Act} {o : Oper} (r : Result Next)
    (h : o.upon P a (wpList P ops (Exit.then K Q) []) (Exit.then K Q) r) : o.upon P a K Q r := by
  cases r with
  | ok x w' => cases x <;> exact h
  | halt hl w' => cases hl <;> exact h

/-- One operation of such a region, as a list of one. -/
theorem wpOp_one {P : Program} {ops : Array Oper} {Q : Exit → Act → World → Prop} {i : Nat} {K : Act → World → Prop} {a : Act} {w : World} {o : Oper} (ho : ops[i]? = some o)
    (h : wpList P ops (Exit.then K Q) [o] a w) : wpOp P ops Q i K a w := by
  unfold wpOp
  simp only [ho]
  unfold wpList at h
  split
  · rename_i hw
    rw [if_pos hw] at h
    rcases h with h | h
    · exact .inl (upon_then _ h)
    · exact .inr ⟨h.1, h.2⟩
  · rename_i hw
    rw [if_neg hw] at h
    exact h

end Go.Proofs.YtipfhcljdginoaaDoor
