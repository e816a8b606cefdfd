/-
  The walk of a chain's Trim, and of the calls of no chain.
-/
import Derived.Test.YtandlkflnfiikaaCH4
namespace Go.Proofs.Ytandlkflnfiikaa
open Go.RowKit

theorem Ch.trim {w1 w2 : World} {B g : Nat} {v v' : Value} {S : List VerS} {L : List Ver} {last : Int} (h : Ch w1 B g v S L last) (k : Nat)
    (ho : OwnG verLay w2 B 59 v' (S.drop k)) (hv : v'.ownBlock = v.ownBlock) (hon : Only w1 w2 (fun b => v.ownBlock = some b)) :
    Ch (w2.setCell ⟨g, 0, none⟩ v') B g v' (S.drop k) (L.drop k) last := by
  have hset : Only w2 (w2.setCell ⟨g, 0, none⟩ v') (fun b => b = g) := (Only.refl w2 (fun b => b = g)).setCell ⟨g, 0, none⟩ v' fun _ => rfl
  have hng : ¬ v.ownBlock = some g := h.ap
  have n1 : (⟨g, 0, none⟩ : Addr) ≠ ⟨g, 1, none⟩ := by simp
  have hdk : ∀ b, DkS g v' b → DkS g v b := fun b hb => hb.imp id fun e => by rw [← hv]; exact e
  have hr2 : VersAt w2 (S.drop k) (L.drop k) := (h.rows.drop k).only hon fun b hb e => (h.off b hb.drop).1 (.inr e)
  have hr3 : VersAt (w2.setCell ⟨g, 0, none⟩ v') (S.drop k) (L.drop k) := hr2.only hset fun b hb e => (h.off b hb.drop).1 (.inl e)
  have ho3 : OwnG verLay (w2.setCell ⟨g, 0, none⟩ v') B 59 v' (S.drop k) := ho.only hset fun b hb e => hng (by rw [← hv, hb, e])
  exact ⟨World.cell?_setCell_same _ _ _ (hon.cell h.h0 hng), (World.cell?_setCell_other (h := n1) ..).trans (hon.cell h.h1 hng),
    fun j => by rw [World.frozen?_setCell]; exact (hon.froz h.h0 hng ⟨g, j, none⟩ rfl).trans (h.fr j), ho3, hr3, by rw [hv]; exact h.ap, h.hB,
    fun b hb => ⟨fun hd => (h.off b hb.drop).1 (hdk b hd), (h.off b hb.drop).2⟩, h.asc.drop k, h.h3⟩

set_option maxHeartbeats 2000000 in
theorem ctrim_any {w : World} {B g : Nat} {v : Value} {S : List VerS} {L : List Ver} {last : Int} (h : Ch w B g v S L last) (hl : L.length ≤ 1000000) (t : Int) :
    Calls Try.prog 14 #[.pointer (some ⟨g, 0, none⟩), .int .i64 t] w fun e w' => e = .returned (.int .i64 (trimN L t)) ∧ ∃ v', Ch w' B g v' (S.drop (trimN L t)) (L.drop (trimN L t)) last ∧ Only w w' (DkS g v) ∧ ∀ b, v'.ownBlock = some b → v.ownBlock = some b := by
  have hup := upTo_any h hl (t := t)
  obtain ⟨U, hU⟩ : ∃ U, upn L t = U := ⟨_, rfl⟩
  rw [hU] at hup
  have hUl : U ≤ L.length := by rw [← hU]; exact upn_le _ _
  have hfin : ∀ w1 w2, Below w.heap.size w w1 → Only w1 w2 (fun b => v.ownBlock = some b) → ∀ u, Only w (w2.setCell ⟨g, 0, none⟩ u) (DkS g v) := fun w1 w2 hb hon u =>
    ((Only.of_below (S := DkS g v) hb).trans hon fun _ _ e => .inr e).setCell ⟨g, 0, none⟩ u fun _ => .inl rfl
  by_cases hz : U = 0
  · subst hz
    rw [trimN_zero hU]
    clear hU
    go_enter Try.func14, Try.ntmps14
    go_wp2_with fail
    refine hup.mono ?_
    rintro e w1 ⟨rfl, hb1⟩
    have h1 := h.below hb1
    have h0 := h1.h0
    have hd := delete_any h1.own 0 (by rw [h1.rows.1]; omega)
    have hle := h.lt
    clear hup h
    go_wp2_with fail
    refine hd.mono ?_
    rintro e w2 ⟨v2, rfl, ho2, hat2, hon2⟩
    have hT := Ch.trim h1 0 ho2 hat2 hon2
    have f0 := hon2.cell h1.h0 h1.ap
    have ff := (hon2.froz h1.h0 h1.ap ⟨g, 0, none⟩ rfl).trans (h1.fr 0)
    obtain ⟨A2, c2, rfl, _, _, _⟩ := ho2.forms
    obtain ⟨N2, hN2⟩ : ∃ N2, (S.drop 0).length = N2 := ⟨_, rfl⟩
    rw [hN2] at hT hat2 ⊢
    clear hN2 ho2 hd
    have hor : Only w (w2.setCell ⟨g, 0, none⟩ (.slice A2 N2 c2)) (DkS g v) :=
      hfin w1 w2 hb1 hon2 (.slice A2 N2 c2)
    clear h0
    go_wp2
    go_ret
    exact ⟨rfl, _, hT, hor, fun b hb => by rw [← hat2]; exact hb⟩
  · obtain ⟨k, rfl⟩ : ∃ k, U = k + 1 := ⟨U - 1, by omega⟩
    obtain ⟨x, hx⟩ : ∃ x, L[k]? = some x := ⟨_, List.getElem?_eq_getElem (show k < L.length by omega)⟩
    rw [trimN_at hU hx]
    clear hU
    by_cases hg : x.gone = true
    · rw [if_pos hg]
      go_enter Try.func14, Try.ntmps14
      go_wp2_with fail
      refine hup.mono ?_
      rintro e w1 ⟨rfl, hb1⟩
      have h1 := h.below hb1
      obtain ⟨p, o, c, s, rfl, hc0, hc1, hc2, _, _, _, _, hlc, hcm⟩ := h1.elem hx
      rw [show x.gone = true by simpa using hg] at hc2
      have e1 : decide ((0 : Int) < ((k + 1 : Nat) : Int)) = true := decide_eq_true (by omega)
      have e2 : ((k + 1 : Nat) : Int) - 1 = (k : Int) := by omega
      have h0 := h1.h0
      have hd := delete_any h1.own (k + 1) (by rw [h1.rows.1]; omega)
      have hle := h.lt
      clear hup h hx
      go_wp2_with fail
      refine hd.mono ?_
      rintro e w2 ⟨v2, rfl, ho2, hat2, hon2⟩
      have hT := Ch.trim h1 (k + 1) ho2 hat2 hon2
      have f0 := hon2.cell h1.h0 h1.ap
      have ff := (hon2.froz h1.h0 h1.ap ⟨g, 0, none⟩ rfl).trans (h1.fr 0)
      obtain ⟨A2, c2, rfl, _, _, _⟩ := ho2.forms
      obtain ⟨N2, hN2⟩ : ∃ N2, (S.drop (k + 1)).length = N2 := ⟨_, rfl⟩
      rw [hN2] at hT hat2 ⊢
      clear hN2 ho2 hd
      have hor : Only w (w2.setCell ⟨g, 0, none⟩ (.slice A2 N2 c2)) (DkS g (.slice (some ⟨p, o, none⟩) L.length c)) :=
        hfin w1 w2 hb1 hon2 (.slice A2 N2 c2)
      clear h0 hc0 hc1 hc2
      go_wp2
      go_ret
      exact ⟨rfl, _, hT, hor, fun b hb => by rw [← hat2]; exact hb⟩
    · rw [if_neg hg]
      go_enter Try.func14, Try.ntmps14
      go_wp2_with fail
      refine hup.mono ?_
      rintro e w1 ⟨rfl, hb1⟩
      have h1 := h.below hb1
      obtain ⟨p, o, c, s, rfl, hc0, hc1, hc2, _, _, _, _, hlc, hcm⟩ := h1.elem hx
      rw [show x.gone = false by simpa using hg] at hc2
      have e1 : decide ((0 : Int) < ((k + 1 : Nat) : Int)) = true := decide_eq_true (by omega)
      have e2 : ((k + 1 : Nat) : Int) - 1 = (k : Int) := by omega
      have h0 := h1.h0
      have hd := delete_any h1.own k (by rw [h1.rows.1]; omega)
      have hle := h.lt
      clear hup h hx
      go_wp2_with fail
      refine hd.mono ?_
      rintro e w2 ⟨v2, rfl, ho2, hat2, hon2⟩
      have hT := Ch.trim h1 k ho2 hat2 hon2
      have f0 := hon2.cell h1.h0 h1.ap
      have ff := (hon2.froz h1.h0 h1.ap ⟨g, 0, none⟩ rfl).trans (h1.fr 0)
      obtain ⟨A2, c2, rfl, _, _, _⟩ := ho2.forms
      obtain ⟨N2, hN2⟩ : ∃ N2, (S.drop k).length = N2 := ⟨_, rfl⟩
      rw [hN2] at hT hat2 ⊢
      clear hN2 ho2 hd
      have hor : Only w (w2.setCell ⟨g, 0, none⟩ (.slice A2 N2 c2)) (DkS g (.slice (some ⟨p, o, none⟩) L.length c)) :=
        hfin w1 w2 hb1 hon2 (.slice A2 N2 c2)
      clear h0 hc0 hc1 hc2
      go_wp2
      go_ret
      exact ⟨rfl, _, hT, hor, fun b hb => by rw [← hat2]; exact hb⟩

theorem cnil_get (w : World) (t : Int) : Calls Try.prog 15 #[.pointer none, .int .i64 t] w fun e w' => e = .returned (.tuple #[.slice none 0 0, .bool false]) ∧ w' = w := by
  go_enter Try.func15, Try.ntmps15
  go_wp2
  go_ret2
  exact ⟨rfl, rfl⟩
theorem cnil_put (w : World) (t : Int) (x : Value) (b : Bool) : Calls Try.prog 12 #[.pointer none, .int .i64 t, x, .bool b] w fun e w' => e = .returned (.int .i64 5) ∧ w' = w := by
  go_enter Try.func12, Try.ntmps12
  go_wp2
  go_ret
  exact ⟨rfl, rfl⟩
theorem cnil_last (w : World) : Calls Try.prog 18 #[.pointer none] w fun e w' => e = .returned (.int .i64 0) ∧ w' = w := by
  go_enter Try.func18, Try.ntmps18
  go_wp2
  go_ret
  exact ⟨rfl, rfl⟩
theorem cnil_len (w : World) : Calls Try.prog 19 #[.pointer none] w fun e w' => e = .returned (.int .i64 0) ∧ w' = w := by
  go_enter Try.func19, Try.ntmps19
  go_wp2
  go_ret
  exact ⟨rfl, rfl⟩
theorem cnil_trim (w : World) (t : Int) : Calls Try.prog 14 #[.pointer none, .int .i64 t] w fun e w' => e = .returned (.int .i64 0) ∧ w' = w := by
  go_enter Try.func14, Try.ntmps14
  go_wp2
  go_ret
  exact ⟨rfl, rfl⟩

end Go.Proofs.Ytandlkflnfiikaa
