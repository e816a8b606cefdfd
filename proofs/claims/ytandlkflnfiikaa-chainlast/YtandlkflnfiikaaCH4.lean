/-
  The walks of a chain's calls.
-/
import Derived.Test.YtandlkflnfiikaaCH3
import Derived.Test.YtandlkflnfiikaaQV
namespace Go.Proofs.Ytandlkflnfiikaa
open Go.RowKit

set_option maxHeartbeats 1000000 in
theorem cnew_any (w : World) :
    Calls Try.prog 10 #[] w fun e w' => ∃ g, e = .returned (.pointer (some ⟨g, 0, none⟩)) ∧ Ch w' w.heap.size g (.slice none 0 0) [] [] 0 ∧ Below w.heap.size w w' ∧ g = w.heap.size := by
  go_enter Try.func10, Try.ntmps10
  go_wp2
  go_ret
  refine ⟨_, rfl, ⟨by simp, by simp, fun j => by simp, OwnG.nil _ _ _, VersAt.nil _, by simp [Value.ownBlock], Nat.le_refl _, fun k hk => ?_, Asc.nil, Int.le_refl _⟩, (Below.refl _ _).alloc (Nat.le_refl _) _, rfl⟩
  obtain ⟨s, hs, _⟩ := hk
  simp at hs

theorem clast_any {w : World} {B g : Nat} {v : Value} {S : List VerS} {L : List Ver} {last : Int} (h : Ch w B g v S L last) :
    Calls Try.prog 18 #[.pointer (some ⟨g, 0, none⟩)] w fun e w' => e = .returned (.int .i64 last) ∧ w' = w := by
  have h1 := h.h1
  go_enter Try.func18, Try.ntmps18
  go_wp2
  go_ret
  exact ⟨rfl, rfl⟩
theorem clen_any {w : World} {B g : Nat} {v : Value} {S : List VerS} {L : List Ver} {last : Int} (h : Ch w B g v S L last) :
    Calls Try.prog 19 #[.pointer (some ⟨g, 0, none⟩)] w fun e w' => e = .returned (.int .i64 L.length) ∧ w' = w := by
  have h0 := h.h0
  obtain ⟨A, c, rfl, _, hlc, hcm⟩ := h.own.forms
  rw [h.rows.1] at h0
  go_enter Try.func19, Try.ntmps19
  go_wp2
  go_ret
  exact ⟨rfl, rfl⟩

set_option maxHeartbeats 1000000 in
theorem cget_any {w : World} {B g : Nat} {v : Value} {S : List VerS} {L : List Ver} {last : Int} (h : Ch w B g v S L last) (hl : L.length ≤ 1000000) (hr : ∀ x ∈ L, x.row.length ≤ 1000000) (t : Int) :
    Calls Try.prog 15 #[.pointer (some ⟨g, 0, none⟩), .int .i64 t] w fun e w' => ∃ u, e = .returned (.tuple #[u, .bool (getV L t).2]) ∧ Own w' w.heap.size 5 u (getV L t).1 ∧ Below w.heap.size w w' := by
  have hup := upTo_any h hl (t := t)
  obtain ⟨U, hU⟩ : ∃ U, upn L t = U := ⟨_, rfl⟩
  rw [hU] at hup
  have hUl : U ≤ L.length := by rw [← hU]; exact upn_le _ _
  by_cases hz : U = 0
  · subst hz
    rw [getV_zero hU]
    go_enter Try.func15, Try.ntmps15
    go_wp2_with fail
    refine hup.mono ?_
    rintro e w1 ⟨rfl, hb1⟩
    go_wp2
    go_ret2
    exact ⟨_, rfl, Own.nil _ _ _, hb1⟩
  · obtain ⟨k, rfl⟩ : ∃ k, U = k + 1 := ⟨U - 1, by omega⟩
    obtain ⟨x, hx⟩ : ∃ x, L[k]? = some x := ⟨_, List.getElem?_eq_getElem (show k < L.length by omega)⟩
    rw [getV_at hU hx]
    have hxl := hr x (List.mem_of_getElem? hx)
    have HU := Lib.hid hU
    clear hU
    by_cases hg : x.gone = true
    · rw [if_pos hg]
      go_enter Try.func15, Try.ntmps15
      go_wp2_with fail
      refine hup.mono ?_
      rintro e w1 ⟨rfl, hb1⟩
      have h1 := h.below hb1
      obtain ⟨p, o, c, s, rfl, hc0, hc1, hc2, _, _, _, _, hlc, hcm⟩ := h1.elem hx
      have h0 := h1.h0
      rw [hg] at hc2
      have e1 : (((k + 1 : Nat) : Int) == 0) = false := by simp; omega
      have e2 : ((k + 1 : Nat) : Int) - 1 = (k : Int) := by omega
      clear hup h h1 hx
      go_wp2
      go_ret2
      exact ⟨_, rfl, Own.nil _ _ _, hb1⟩
    · rw [if_neg hg]
      go_enter Try.func15, Try.ntmps15
      go_wp2_with fail
      refine hup.mono ?_
      rintro e w1 ⟨rfl, hb1⟩
      have h1 := h.below hb1
      obtain ⟨p, o, c, s, rfl, hc0, hc1, hc2, hsg, _, _, _, hlc, hcm⟩ := h1.elem hx
      have h0 := h1.h0
      rw [show x.gone = false by simpa using hg] at hc2
      have e1 : (((k + 1 : Nat) : Int) == 0) = false := by simp; omega
      have e2 : ((k + 1 : Nat) : Int) - 1 = (k : Int) := by omega
      have hsl := hsg.1
      clear hup h h1 hx
      go_wp2_with fail
      refine (clone_any s.A s.m s.c x.row _ hsg (by omega)).mono ?_
      rintro e w2 ⟨u, rfl, ho2, hb2⟩
      go_wp2
      go_ret2
      exact ⟨u, rfl, ho2.mono hb1.size, Below.next' hb1 hb2 hb1.size⟩


set_option maxHeartbeats 1000000 in
theorem cput_bad {w : World} {B g : Nat} {v : Value} {S : List VerS} {L : List Ver} {last : Int} (h : Ch w B g v S L last) (t : Int) (ht : t ≤ last) (x : Value) (b : Bool) :
    Calls Try.prog 12 #[.pointer (some ⟨g, 0, none⟩), .int .i64 t, x, .bool b] w fun e w' => e = .returned (.int .i64 1) ∧ w' = w := by
  have h1 := h.h1
  clear h
  go_enter Try.func12, Try.ntmps12
  go_wp2
  go_ret
  exact ⟨rfl, rfl⟩

/-- What becomes of the blocks of a chain that was put to. -/
theorem Ch.put {o : Obj} {w1 w2 w3 : World} {B g : Nat} {v v' : Value} {S : List VerS} {L : List Ver} {last : Int} (h : Ch w1 B g v S L last) (hw : w2 = w1.alloc o) {s : VerS} {x : Ver} (hs : VerAt w1 s x) (ht : last < x.num)
    (hn : 0 < s.m → ∀ a, s.A = some a → ¬ DkS g v a.block ∧ B ≤ a.block)
    (ho : OwnG verLay w3 B 59 v' (S ++ [s])) (hg : w2.grownBy w3 v.ownBlock) (hv : v'.ownBlock = v.ownBlock ∨ v'.ownBlock = some w2.heap.size) :
    Ch ((w3.setCell ⟨g, 0, none⟩ v').setCell ⟨g, 1, none⟩ (.int .i64 x.num)) B g v' (S ++ [s]) (L ++ [x]) x.num := by
  subst hw
  have hglt : g < w1.heap.size := World.block_lt_of_cell? w1 _ h.h0
  have hsz : (w1.alloc o).heap.size = w1.heap.size + 1 := by simp
  have hon : Only w1 w3 (fun k => v.ownBlock = some k) := ((Only.refl w1 _).alloc o).trans (Only.of_grown (S := fun k => v.ownBlock = some k) hg fun k hk => hk) fun _ _ h => h
  have hap' : v'.ownBlock ≠ some g := by
    rcases hv with hv | hv
    · rw [hv]; exact h.ap
    · rw [hv]; intro e; injection e with e; omega
  have hng : ¬ v.ownBlock = some g := h.ap
  have hdk : ∀ k, DkS g v' k → DkS g v k ∨ w1.heap.size ≤ k := by
    intro k hk
    rcases hk with rfl | hk
    · exact .inl (.inl rfl)
    · rcases hv with hv | hv
      · exact .inl (.inr (by rw [← hv]; exact hk))
      · rw [hv] at hk
        injection hk with hk
        exact .inr (by omega)
  have h30 : w3.cell? ⟨g, 0, none⟩ = some v := hon.cell h.h0 hng
  have h31 : w3.cell? ⟨g, 1, none⟩ = some (.int .i64 last) := hon.cell h.h1 hng
  have h3f : ∀ j, w3.frozen? ⟨g, j, none⟩ = false := fun j => (hon.froz h.h0 hng ⟨g, j, none⟩ rfl).trans (h.fr j)
  have n1 : (⟨g, 0, none⟩ : Addr) ≠ ⟨g, 1, none⟩ := by simp
  have n2 : (⟨g, 1, none⟩ : Addr) ≠ ⟨g, 0, none⟩ := by simp
  have hset1 : Only w3 (w3.setCell ⟨g, 0, none⟩ v') (fun k => k = g) := (Only.refl w3 (fun k => k = g)).setCell ⟨g, 0, none⟩ v' fun _ => rfl
  have hset : Only w3 ((w3.setCell ⟨g, 0, none⟩ v').setCell ⟨g, 1, none⟩ (.int .i64 x.num)) (fun k => k = g) := hset1.setCell ⟨g, 1, none⟩ (.int .i64 x.num) fun _ => rfl
  have hrows : VersAt w1 (S ++ [s]) (L ++ [x]) := h.rows.push hs
  have hoff : ∀ k, VerB (S ++ [s]) k → ¬ DkS g v k ∧ B ≤ k := by
    intro k hk
    rcases VerB.push hk with hk | ⟨hm, a, ha, rfl⟩
    · exact h.off k hk
    · exact hn hm a ha
  have hown3 : OwnG verLay ((w3.setCell ⟨g, 0, none⟩ v').setCell ⟨g, 1, none⟩ (.int .i64 x.num)) B 59 v' (S ++ [s]) := ho.only hset fun k hk e => hap' (by rw [hk, e])
  have hr3 : VersAt w3 (S ++ [s]) (L ++ [x]) := hrows.only hon fun k hk e => (hoff k hk).1 (.inr e)
  have hr4 : VersAt ((w3.setCell ⟨g, 0, none⟩ v').setCell ⟨g, 1, none⟩ (.int .i64 x.num)) (S ++ [s]) (L ++ [x]) := hr3.only hset fun k hk e => (hoff k hk).1 (.inl e)
  have hc0 : ((w3.setCell ⟨g, 0, none⟩ v').setCell ⟨g, 1, none⟩ (.int .i64 x.num)).cell? ⟨g, 0, none⟩ = some v' := by
    rw [World.cell?_setCell_other (h := n2)]
    exact World.cell?_setCell_same _ _ _ h30
  have hc1 : ((w3.setCell ⟨g, 0, none⟩ v').setCell ⟨g, 1, none⟩ (.int .i64 x.num)).cell? ⟨g, 1, none⟩ = some (.int .i64 x.num) :=
    World.cell?_setCell_same _ _ _ ((World.cell?_setCell_other (h := n1) ..).trans h31)
  have hfr : ∀ j, ((w3.setCell ⟨g, 0, none⟩ v').setCell ⟨g, 1, none⟩ (.int .i64 x.num)).frozen? ⟨g, j, none⟩ = false := fun j => by
    rw [World.frozen?_setCell, World.frozen?_setCell]
    exact h3f j
  have hoff' : ∀ k, VerB (S ++ [s]) k → ¬ DkS g v' k ∧ B ≤ k := fun k hk => ⟨fun hd => by
    have hlt := hrows.lt k hk
    rcases hdk k hd with hd | hd
    · exact (hoff k hk).1 hd
    · omega, (hoff k hk).2⟩
  exact ⟨hc0, hc1, hfr, hown3, hr4, hap', h.hB, hoff', h.asc.push x ht, Int.le_of_lt (Int.lt_of_le_of_lt h.h3 ht)⟩

end Go.Proofs.Ytandlkflnfiikaa
