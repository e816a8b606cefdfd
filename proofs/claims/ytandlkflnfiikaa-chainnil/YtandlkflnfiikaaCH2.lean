/-
  The walks of sort.Search at a chain's versions, of the function that it is handed, and of upTo.
-/
import Derived.Test.YtandlkflnfiikaaCH1
namespace Go.Proofs.Ytandlkflnfiikaa
open Go.RowKit

theorem Ch.elem {w : World} {B g : Nat} {v : Value} {S : List VerS} {L : List Ver} {last : Int} (h : Ch w B g v S L last) {k : Nat} {x : Ver} (hx : L[k]? = some x) :
    ∃ p o c s, v = .slice (some ⟨p, o, none⟩) L.length c ∧ w.cell? ⟨p, o + k * 3, none⟩ = some (.int .i64 x.num) ∧ w.cell? ⟨p, o + k * 3 + 1, none⟩ = some (.slice s.A s.m s.c) ∧ w.cell? ⟨p, o + k * 3 + 2, none⟩ = some (.bool x.gone) ∧
      Seg w s.A s.m x.row ∧ s.m ≤ s.c ∧ s.c ≤ maxLen ∧ S[k]? = some s ∧ L.length ≤ c ∧ c ≤ maxLen := by
  obtain ⟨s, hs, h1, h2, h3, h4, h5⟩ := h.rows.at_ hx
  obtain ⟨A, c, rfl, hsg, hlc, hcm⟩ := h.own.forms
  have hk : k < S.length := (List.getElem?_eq_some_iff.1 hs).1
  obtain ⟨p, o, rfl, hc⟩ := hsg.at_ (k := k) hk
  have e : S[k]'hk = s := (List.getElem?_eq_some_iff.1 hs).2
  rw [e] at hc
  refine ⟨p, o, c, s, by rw [h.rows.1], ?_, hc 1 _ rfl, ?_, h2, h3, h4, hs, by rw [← h.rows.1]; exact hlc, hcm⟩
  · rw [h1]; exact hc 0 _ rfl
  · rw [h5]; exact hc 2 _ rfl

set_option maxHeartbeats 1000000 in
theorem above_any {w : World} {B g bc ba : Nat} {v : Value} {S : List VerS} {L : List Ver} {last t : Int} (h : Ch w B g v S L last) (hbc : w.cell? ⟨bc, 0, none⟩ = some (.pointer (some ⟨g, 0, none⟩))) (hba : w.cell? ⟨ba, 0, none⟩ = some (.int .i64 t))
    (k : Nat) (x : Ver) (hx : L[k]? = some x) :
    Calls Try.prog 26 #[.int .i64 k, .pointer (some ⟨bc, 0, none⟩), .pointer (some ⟨ba, 0, none⟩)] w fun e w' => e = .returned (.bool (decide (t < x.num))) ∧ ∃ q, w' = w.drewN q := by
  obtain ⟨p, o, c, s, rfl, hc0, _, _, _, _, _, _, _, _⟩ := h.elem hx
  have hk : k < L.length := (List.getElem?_eq_some_iff.1 hx).1
  have h0 := h.h0
  clear h hx
  go_enter Try.func26, Try.ntmps26
  go_wp2
  go_quiet (fail)
  go_wp2
  go_ret
  exact ⟨rfl, nq, rfl⟩

set_option maxHeartbeats 2000000 in
theorem search_any {w : World} {B g bc ba : Nat} {v : Value} {S : List VerS} {L : List Ver} {last t : Int} (h : Ch w B g v S L last) (hbc : w.cell? ⟨bc, 0, none⟩ = some (.pointer (some ⟨g, 0, none⟩))) (hba : w.cell? ⟨ba, 0, none⟩ = some (.int .i64 t))
    (hl : L.length ≤ 1000000) :
    Calls Try.prog 25 #[.int .i64 L.length, .func (.func 26) #[] #[.pointer (some ⟨bc, 0, none⟩), .pointer (some ⟨ba, 0, none⟩)]] w fun e w' => e = .returned (.int .i64 (upn L t)) ∧ ∃ q, w' = w.drewN q := by
  obtain ⟨N, hN⟩ : ∃ N, L.length = N := ⟨_, rfl⟩
  obtain ⟨U, hU⟩ : ∃ U, upn L t = U := ⟨_, rfl⟩
  have HN := Lib.hid hN
  have HU := Lib.hid hU
  rw [hU]
  rw [hN] at hl ⊢
  have hUN : U ≤ N := by rw [← hU, ← hN]; exact upn_le _ _
  clear hN hU
  go_enter Try.func25, Try.ntmps25
  go_wp2
  go_loopw [5, 6, 7] (fun i j x w' => ∃ a b : Nat, a ≤ U ∧ U ≤ b ∧ b ≤ N ∧ i = .int .i64 a ∧ j = .int .i64 b ∧ ∃ q, w' = w.drewN q) (fun i j _ _ => (intOf j).toNat - (intOf i).toNat)
  case atStart => exact ⟨0, N, by omega, hUN, by omega, rfl, rfl, 0, rfl⟩
  case round =>
    obtain ⟨a, b, ha, hb, hbN, rfl, rfl, q, rfl⟩ := hrel
    by_cases hab : a < b
    · obtain ⟨m, hm⟩ : ∃ m, (a + b) / 2 = m := ⟨_, rfl⟩
      have hm1 : a ≤ m := by omega
      have hm2 : m < b := by omega
      have em : (((a : Int) + (b : Int)) / 2) = (m : Int) := by omega
      have hml : m < L.length := by rw [HN.out]; omega
      obtain ⟨x, hx⟩ : ∃ x, L[m]? = some x := ⟨_, List.getElem?_eq_getElem hml⟩
      have hcl := above_any (h.drewN q) (bc := bc) (ba := ba) (t := t) hbc hba m x hx
      go_wp2_with fail
      refine hcl.mono ?_
      rintro e w1 ⟨rfl, q1, rfl⟩
      rw [World.drewN_drewN]
      generalize q + q1 = q2
      by_cases ht : t < x.num
      · have hUm : U ≤ m := by
          rcases Nat.lt_or_ge m U with h' | h'
          · have := upn_lt L t m (by rw [HU.out]; exact h') x hx
            omega
          · exact h'
        rw [decide_eq_true ht]
        clear hcl hx
        go_wp2
        go_roundw
        case rel => exact ⟨a, m, ha, hUm, by omega, rfl, rfl, q2, rfl⟩
        case measure => simp [intOf]; omega
      · have hUm : m + 1 ≤ U := by
          rcases Nat.lt_or_ge m U with h' | h'
          · exact h'
          · have := upn_ge h.asc t m (by rw [HU.out]; exact h') x hx
            omega
        rw [decide_eq_false ht]
        clear hcl hx
        go_wp2
        go_roundw
        case rel => exact ⟨m + 1, b, hUm, hb, hbN, by go_num, rfl, q2, rfl⟩
        case measure => simp [intOf]; omega
    · obtain rfl : a = U := by omega
      go_wp2
      go_ret
      exact ⟨rfl, q, rfl⟩

set_option maxHeartbeats 1000000 in
theorem upTo_any {w : World} {B g : Nat} {v : Value} {S : List VerS} {L : List Ver} {last t : Int} (h : Ch w B g v S L last) (hl : L.length ≤ 1000000) :
    Calls Try.prog 23 #[.pointer (some ⟨g, 0, none⟩), .int .i64 t] w fun e w' => e = .returned (.int .i64 (upn L t)) ∧ Below w.heap.size w w' := by
  obtain ⟨A, c, rfl, _, hlc, hcm⟩ := h.own.forms
  have hb1 : Below w.heap.size w ((w.alloc (.cells #[.pointer (some ⟨g, 0, none⟩)] 24)).alloc (.cells #[.int .i64 t] 2)) := ((Below.refl _ w).alloc (Nat.le_refl _) _).alloc (by simp) _
  have h1 := h.below hb1
  have hsr := search_any (bc := w.heap.size) (ba := w.heap.size + 1) (t := t) h1 (by simp) (by simp) hl
  have h0 := h1.h0
  rw [← h.rows.1] at hsr
  clear h h1
  go_enter Try.func23, Try.ntmps23
  go_wp2_with fail
  refine hsr.mono ?_
  rintro e w1 ⟨rfl, q, rfl⟩
  go_wp2
  go_ret
  exact ⟨rfl, Below.drewP hb1 q⟩

end Go.Proofs.Ytandlkflnfiikaa
