/-
  The walks of the document's chain.
-/
import Derived.Test.YtandlkflnfiikaaCH1
import Derived.Test.YtandlkflnfiikaaQV
namespace Go.Proofs.Ytandlkflnfiikaa
open Go.RowKit

theorem Md.elem {w : World} {A : Option Addr} {n c : Nat} {S : List VerS} {L : List Ver} (h : Md w A n c S L) {k : Nat} {x : Ver} (hx : L[k]? = some x) :
    ∃ p o s, A = some ⟨p, o, none⟩ ∧ w.cell? ⟨p, o + k * 3, none⟩ = some (.int .i64 x.num) ∧ w.cell? ⟨p, o + k * 3 + 1, none⟩ = some (.slice s.A s.m s.c) ∧ w.cell? ⟨p, o + k * 3 + 2, none⟩ = some (.bool x.gone) ∧
      Seg w s.A s.m x.row ∧ s.m ≤ s.c ∧ s.c ≤ maxLen ∧ S[k]? = some s ∧ k < n := by
  obtain ⟨s, hs, h1, h2, h3, h4, h5⟩ := h.rows.at_ hx
  have hk : k < S.length := (List.getElem?_eq_some_iff.1 hs).1
  have hkn : k < n := by rw [← h.seg.1]; exact hk
  obtain ⟨p, o, e1, hc⟩ := h.seg.at_ hkn
  have e : S[k]'hk = s := (List.getElem?_eq_some_iff.1 hs).2
  rw [e] at hc
  refine ⟨p, o, s, e1, ?_, hc 1 _ rfl, ?_, h2, h3, h4, hs, hkn⟩
  · rw [h1]; exact hc 0 _ rfl
  · rw [h5]; exact hc 2 _ rfl

set_option maxHeartbeats 1000000 in
theorem seen_any {w : World} {A : Option Addr} {n c : Nat} {S : List VerS} {L : List Ver} {last : Int} (h : Md w A n c S L) (ha : Asc L last) (hn : n ≤ 1000000) (t : Int) :
    Calls Try.prog 22 #[.agg #[.slice A n c, .int .i64 last], .int .i64 t] w fun e w' => e = .returned (.int .i64 ((upn L t : Nat) - 1)) ∧ Below w.heap.size w w' := by
  have hb1 : Below w.heap.size w (w.alloc (.cells #[.slice A n c, .int .i64 last] 28)) := (Below.refl _ w).alloc (Nat.le_refl _) _
  have h1 := h.below hb1
  obtain ⟨U, hU⟩ : ∃ U, upn L t = U := ⟨_, rfl⟩
  have HU := Lib.hid hU
  have hUn : U ≤ n := by rw [← hU, ← h.len]; exact upn_le _ _
  have HL := Lib.hid h.len
  rw [hU]
  clear hU h
  go_enter Try.func22, Try.ntmps22
  go_wp2
  have hcell : (w.alloc (.cells #[.slice A n c, .int .i64 last] 28)).cell? ⟨w.heap.size, 0, none⟩ = some (.slice A n c) := by simp
  generalize hw1 : w.alloc (.cells #[.slice A n c, .int .i64 last] 28) = w1 at *
  clear hw1
  go_loop [5, 6] (fun x i => ∃ k : Nat, k ≤ n ∧ i = .int .i64 k ∧ x = .int .i64 (((min k U : Nat) : Int) - 1)) (fun _ i => n - (intOf i).toNat)
  case atStart => exact ⟨0, by omega, rfl, by simp⟩
  case round =>
    obtain ⟨k, hk, rfl, rfl⟩ := hrel
    by_cases hlt : k < n
    · obtain ⟨x, hx⟩ : ∃ x, L[k]? = some x := ⟨_, List.getElem?_eq_getElem (show k < L.length by rw [HL.out]; exact hlt)⟩
      obtain ⟨p, o, s, rfl, hc0, _, _, _, _, _, _, _⟩ := h1.elem hx
      by_cases ht : x.num ≤ t
      · have hm : k < U := by
          rcases Nat.lt_or_ge k U with h' | h'
          · exact h'
          · have := upn_ge ha t k (by rw [HU.out]; exact h') x hx
            omega
        have hd : decide (x.num ≤ t) = true := decide_eq_true ht
        clear hx h1
        go_wp2
        go_round
        case rel => exact ⟨k + 1, hlt, by go_num, by congr 1; omega⟩
        case measure => simp [intOf]; omega
      · have hm : U ≤ k := by
          rcases Nat.lt_or_ge k U with h' | h'
          · have := upn_lt L t k (by rw [HU.out]; exact h') x hx
            omega
          · exact h'
        have hd : decide (x.num ≤ t) = false := decide_eq_false ht
        clear hx h1
        go_wp2
        go_round
        case rel => exact ⟨k + 1, hlt, by go_num, by congr 3; omega⟩
        case measure => simp [intOf]; omega
    · go_wp2
      go_ret
      exact ⟨by rw [show min k U = U by omega]; rfl, hb1⟩

set_option maxHeartbeats 1000000 in
theorem rcget_any {w : World} {A : Option Addr} {n c : Nat} {S : List VerS} {L : List Ver} {last : Int} (h : Md w A n c S L) (ha : Asc L last) (hn : n ≤ 1000000) (t : Int) :
    Calls Try.prog 16 #[.agg #[.slice A n c, .int .i64 last], .int .i64 t] w fun e w' => ∃ B m d, e = .returned (.tuple #[.slice B m d, .bool (getV L t).2]) ∧ Seg w' B m (getV L t).1 ∧ m ≤ d ∧ d ≤ maxLen ∧ Below w.heap.size w w' := by
  have hb1 : Below w.heap.size w (w.alloc (.cells #[.slice A n c, .int .i64 last] 28)) := (Below.refl _ w).alloc (Nat.le_refl _) _
  have h1 := h.below hb1
  have hse := seen_any h1 ha hn t
  obtain ⟨U, hU⟩ : ∃ U, upn L t = U := ⟨_, rfl⟩
  have hUn : U ≤ n := by rw [← hU, ← h.len]; exact upn_le _ _
  rw [hU] at hse
  have hcell : (w.alloc (.cells #[.slice A n c, .int .i64 last] 28)).cell? ⟨w.heap.size, 0, none⟩ = some (.slice A n c) := by simp
  by_cases hz : U = 0
  · subst hz
    rw [getV_zero hU]
    clear hU
    go_enter Try.func16, Try.ntmps16
    go_wp2_with fail
    refine hse.mono ?_
    rintro e w2 ⟨rfl, hb2⟩
    have e1 : ((0 : Nat) : Int) - 1 = -1 := rfl
    go_wp2
    go_ret2
    exact ⟨_, _, _, rfl, Seg.nil _ _, Nat.le_refl _, Nat.zero_le _, Below.next' hb1 hb2 hb1.size⟩
  · obtain ⟨k, rfl⟩ : ∃ k, U = k + 1 := ⟨U - 1, by omega⟩
    obtain ⟨x, hx⟩ : ∃ x, L[k]? = some x := ⟨_, List.getElem?_eq_getElem (show k < L.length by rw [h.len]; omega)⟩
    rw [getV_at hU hx]
    rw [show (((k + 1 : Nat) : Int) - 1) = (k : Int) by omega] at hse
    clear hU hz
    by_cases hg : x.gone = true
    · rw [if_pos hg]
      go_enter Try.func16, Try.ntmps16
      go_wp2_with fail
      refine hse.mono ?_
      rintro e w2 ⟨rfl, hb2⟩
      have h2 := h1.below hb2
      obtain ⟨p, o, s, rfl, hc0, hc1, hc2, _, _, _, _, hkn⟩ := h2.elem hx
      rw [hg] at hc2
      have hcell2 := cell_below hb2 hcell
      have hd0 : decide ((k : Int) < 0) = false := decide_eq_false (by omega)
      clear h h1 h2 hx hse hcell
      go_wp2
      go_ret2
      exact ⟨_, _, _, rfl, Seg.nil _ _, Nat.le_refl _, Nat.zero_le _, Below.next' hb1 hb2 hb1.size⟩
    · rw [if_neg hg]
      go_enter Try.func16, Try.ntmps16
      go_wp2_with fail
      refine hse.mono ?_
      rintro e w2 ⟨rfl, hb2⟩
      have h2 := h1.below hb2
      obtain ⟨p, o, s, rfl, hc0, hc1, hc2, hsg, hs1, hs2, _, hkn⟩ := h2.elem hx
      rw [show x.gone = false by simpa using hg] at hc2
      have hcell2 := cell_below hb2 hcell
      have hd0 : decide ((k : Int) < 0) = false := decide_eq_false (by omega)
      clear h h1 h2 hx hse hcell
      go_wp2
      go_ret2
      exact ⟨_, _, _, rfl, hsg, hs1, hs2, Below.next' hb1 hb2 hb1.size⟩

theorem rverT : ElT Try.prog verLay 26 56 (.agg #[.int .i64 0, .slice none 0 0, .bool false]) 40 := ⟨Try.underlying26, by kernel_rfl, rfl, by omega⟩

set_option maxHeartbeats 1000000 in
theorem rcput_bad {w : World} {v : Value} {last t : Int} (ht : t ≤ last) (x : Value) (b : Bool) (A : Option Addr) (n c : Nat) (hv : v = .slice A n c) :
    Calls Try.prog 11 #[.agg #[v, .int .i64 last], .int .i64 t, x, .bool b] w fun e w' => e = .returned (.tuple #[.agg #[v, .int .i64 last], .int .i64 1]) ∧ Below w.heap.size w w' := by
  subst hv
  have hd : decide (t ≤ last) = true := decide_eq_true ht
  go_enter Try.func11, Try.ntmps11
  go_wp2
  refine bodyPost_ret (v := .tuple #[.agg #[.slice A n c, .int .i64 last], .int .i64 1]) (by simp [results, Try.results11, go_sem]) rfl ⟨rfl, ?_⟩
  exact ((Below.refl _ w).alloc (Nat.le_refl _) _).alloc (by simp) _

set_option maxHeartbeats 2000000 in
theorem rcput_ok {w : World} {A : Option Addr} {n c : Nat} {S : List VerS} {L : List Ver} {last t : Int} (h : Md w A n c S L) (hn : n ≤ 1000000) (ht : last < t) (B : Option Addr) (m d : Nat) (l : List UInt8) (b : Bool) (hl : Seg w B m l) (hm : m ≤ 1000000) :
    Calls Try.prog 11 #[.agg #[.slice A n c, .int .i64 last], .int .i64 t, .slice B m d, .bool b] w fun e w' => ∃ A' c' S', e = .returned (.tuple #[.agg #[.slice A' (n + 1) c', .int .i64 t], .int .i64 0]) ∧ Md w' A' (n + 1) c' S' (L ++ [⟨t, l, b⟩]) ∧ Below w.heap.size w w' ∧ ∀ k, MdS A' (n + 1) S' k → w.heap.size ≤ k ∨ VerB S k := by
  have hd : decide (t ≤ last) = false := decide_eq_false (by omega)
  obtain ⟨wa, hwa⟩ : ∃ wa, (w.alloc (.cells #[.slice A n c, .int .i64 last] 28)).alloc (.cells #[.slice none 0 0, .int .i64 0] 28) = wa := ⟨_, rfl⟩
  have hb1 : Below w.heap.size w wa := by rw [← hwa]; exact ((Below.refl _ w).alloc (Nat.le_refl _) _).alloc (by simp) _
  have h1 := h.below hb1
  have hl1 := hl.below hb1
  have hc0 : wa.cell? ⟨w.heap.size, 0, none⟩ = some (.slice A n c) := by rw [← hwa]; simp
  have hc1 : wa.cell? ⟨w.heap.size, 1, none⟩ = some (.int .i64 last) := by rw [← hwa]; simp
  have hr0 : wa.cell? ⟨w.heap.size + 1, 0, none⟩ = some (.slice none 0 0) := by rw [← hwa]; simp
  have hr1 : wa.cell? ⟨w.heap.size + 1, 1, none⟩ = some (.int .i64 0) := by rw [← hwa]; simp
  have hrf : ∀ j, wa.frozen? ⟨w.heap.size + 1, j, none⟩ = false := fun j => by rw [← hwa]; simp
  have hwz : wa.heap.size = w.heap.size + 2 := by rw [← hwa]; simp
  have HS := Lib.hid h1.seg
  have HL := Lib.hid h.seg.1
  have hv0 := h.rows.lt
  have HWA := Lib.hid hwa
  clear h hl hwa
  go_enter Try.func11, Try.ntmps11
  go_wp2_with (at_builtin
               rw [HWA.out]
               refine wpList_append_G _ rfl (.tmp 16) (.tmp 18) _ _ _ _ rverT rfl wa.heap.size (.slice none 0 0) [] rfl (OwnG.nil _ _ _) A n c S rfl HS.out (by simp; omega) (Nat.le_refl _) ?_
               intro v2 w2 hown2 hg2 hat2)
  rw [List.nil_append] at hown2
  have h2lt := hown2.lt
  have hvb := h1.rows.lt
  have hb2 : Below wa.heap.size wa w2 := below_grownG (Below.refl _ _) (OwnG.nil (Y := verLay) wa wa.heap.size 0) hg2 (Nat.le_refl _) (Nat.le_refl _)
  have hl2 := hl1.below hb2
  have hz2 := hb2.size
  clear hg2 hat2 HWA HS
  refine (join_any B none m 0 d 0 l [] _ hl2 (Seg.nil _ _) (by omega)).mono ?_
  rintro e w3 ⟨v3, rfl, ho3, hb3⟩
  rw [List.append_nil] at ho3
  obtain ⟨A3, c3, rfl, hs3, hq3, hm3⟩ := ho3.forms
  have hlt3 := ho3.lt
  have hz3 := hb3.size
  have hown3 := hown2.below hb3
  obtain ⟨lq, hlq⟩ : ∃ lq, lq = l.length := ⟨_, rfl⟩
  rw [← hlq] at hs3 hq3 hlt3 ⊢
  obtain ⟨A2, c2, rfl, _, hk2, hm2⟩ := hown3.forms
  have hb23 : Below wa.heap.size wa w3 := hb2.trans (hb3.mono hz2)
  have h3 := h1.below hb23
  clear hlq ho3 hl2 hl1 hown2 hb2 hb3 h1
  go_wp2_with (at_builtin
               refine wpList_append_G _ rfl (.tmp 20) (.tmp 26) _ _ _ _ rverT rfl wa.heap.size (.slice A2 S.length c2) S rfl (hown3.alloc _) (some ⟨w3.heap.size, 0, none⟩) 1 1 ([⟨t, A3, lq, c3, b⟩] : List VerS) rfl (SegG.newAt w3 ([⟨t, A3, lq, c3, b⟩] : List VerS) _ _ _ 1 rfl rfl rfl) (by have := HL.out; omega) (by simp; omega) ?_
               intro v4 w4 hown4 hg4 hat4
               have hb4 : Below wa.heap.size wa w4 := below_grownG (hb23.alloc hb23.size _) (hown3.alloc _) hg4 (Nat.le_refl _) (by simp; omega)
               have hb34 : Below w3.heap.size w3 (w3.alloc (.cells #[.int .i64 t, .slice A3 lq c3, .bool b] 56)) := (Below.refl _ _).alloc (Nat.le_refl _) _
               have hgo : Only (w3.alloc (.cells #[.int .i64 t, .slice A3 lq c3, .bool b] 56)) w4 (fun k => (Value.slice A2 S.length c2).ownBlock = some k) := Only.of_grown hg4 fun k hk => hk
               have hno : ∀ k, VerB (S ++ [(⟨t, A3, lq, c3, b⟩ : VerS)]) k → ¬ (Value.slice A2 S.length c2).ownBlock = some k := by
                 intro k hk e
                 have q1 := h2lt k e
                 rcases VerB.push hk with hk | ⟨_, a, ha, rfl⟩
                 · have := hvb k hk
                   omega
                 · have ha : A3 = some a := ha
                   have := hlt3 a.block (by rw [ha]; rfl)
                   omega
               have x0 := cell_below hb4 hr0
               have x1 := cell_below hb4 hr1
               have xf0 : w4.frozen? ⟨w.heap.size + 1, 0, none⟩ = false := ((bcell hb4).2 _ _ (by omega)).trans (hrf 0)
               have xf1 : w4.frozen? ⟨w.heap.size + 1, 1, none⟩ = false := ((bcell hb4).2 _ _ (by omega)).trans (hrf 1)
               have hlt4 := hown4.lt
               obtain ⟨A4, c4, rfl, hs4, hk4, hm4⟩ := hown4.forms
               obtain ⟨N4, hN4⟩ : ∃ N4, (S ++ [(⟨t, A3, lq, c3, b⟩ : VerS)]).length = N4 := ⟨_, rfl⟩
               have HN4 := Lib.hid (show N4 = n + 1 by rw [← hN4]; simp [HL.out])
               rw [hN4] at hs4 hk4 hlt4 ⊢
               have x1' : (w4.setCell ⟨w.heap.size + 1, 0, none⟩ (.slice A4 N4 c4)).cell? ⟨w.heap.size + 1, 1, none⟩ = some (.int .i64 0) := (World.cell?_setCell_other (h := by simp) ..).trans x1
               have xf1' : (w4.setCell ⟨w.heap.size + 1, 0, none⟩ (.slice A4 N4 c4)).frozen? ⟨w.heap.size + 1, 1, none⟩ = false := by rw [World.frozen?_setCell]; exact xf1
               have HW := Lib.hid (show Md w4 A4 N4 c4 (S ++ [(⟨t, A3, lq, c3, b⟩ : VerS)]) (L ++ [⟨t, l, b⟩]) from ⟨hs4, ((h3.rows.below hb34).push ⟨rfl, hs3.below hb34, hq3, hm3, rfl⟩).only hgo hno, hk4, hm4⟩)
               have HB := Lib.hid hb4
               have HLT := Lib.hid hlt4
               clear hat4 hg4 hgo hb4 hb34 hno x1 hown4 hs4 hk4 hm4 hlt4)
  have y1 : ((w4.setCell ⟨w.heap.size + 1, 0, none⟩ (.slice A4 N4 c4)).setCell ⟨w.heap.size + 1, 1, none⟩ (.int .i64 t)).cell? ⟨w.heap.size + 1, 1, none⟩ = some (.int .i64 t) := World.cell?_setCell_same _ _ _ x1'
  have y0 : ((w4.setCell ⟨w.heap.size + 1, 0, none⟩ (.slice A4 N4 c4)).setCell ⟨w.heap.size + 1, 1, none⟩ (.int .i64 t)).cell? ⟨w.heap.size + 1, 0, none⟩ = some (.slice A4 N4 c4) :=
    (World.cell?_setCell_other (h := by simp) ..).trans (World.cell?_setCell_same _ _ _ x0)
  have hset : Only w4 ((w4.setCell ⟨w.heap.size + 1, 0, none⟩ (.slice A4 N4 c4)).setCell ⟨w.heap.size + 1, 1, none⟩ (.int .i64 t)) (fun k => k = w.heap.size + 1) :=
    ((Only.refl w4 (fun k => k = w.heap.size + 1)).setCell ⟨w.heap.size + 1, 0, none⟩ (.slice A4 N4 c4) fun _ => rfl).setCell ⟨w.heap.size + 1, 1, none⟩ (.int .i64 t) fun _ => rfl
  have hMS : ∀ k, MdS A4 N4 (S ++ [(⟨t, A3, lq, c3, b⟩ : VerS)]) k → w.heap.size + 2 ≤ k ∨ VerB S k := by
    rintro k (⟨_, a, ha, rfl⟩ | hk)
    · have := (HLT.out a.block (by rw [ha]; rfl)).1
      exact .inl (by omega)
    · rcases VerB.push hk with hk | ⟨_, a, ha, rfl⟩
      · exact .inr hk
      · have ha : A3 = some a := ha
        have := hlt3 a.block (by rw [ha]; rfl)
        exact .inl (by omega)
  have hMd := HW.out.only hset fun k hk e => by
    rcases hMS k hk with h' | h'
    · omega
    · have := hv0 k h'
      omega
  have hbe : Below w.heap.size w ((w4.setCell ⟨w.heap.size + 1, 0, none⟩ (.slice A4 N4 c4)).setCell ⟨w.heap.size + 1, 1, none⟩ (.int .i64 t)) :=
    ((Below.next' hb1 HB.out hb1.size).setCell (p := ⟨w.heap.size + 1, 0, none⟩) (by simp) _).setCell (p := ⟨w.heap.size + 1, 1, none⟩) (by simp) _
  rw [HN4.out] at y0 y1 hMd hMS hbe ⊢
  refine bodyPost_ret (v := .tuple #[.agg #[.slice A4 (n + 1) c4, .int .i64 t], .int .i64 0]) (by simp [results, Try.results11, go_sem, y0, y1]) rfl ⟨A4, c4, _, rfl, hMd, hbe, fun k hk => ?_⟩
  rcases hMS k hk with h' | h'
  · exact .inl (by omega)
  · exact .inr h'

theorem SegG.fromA {α : Type} {Y : Lay α} {w : World} {A : Option Addr} {n : Nat} {l : List α} (h : SegG Y w A n l) (k c : Nat) (hk : k ≤ n) (hc : n ≤ c) :
    SegG Y w (if c = k then A else Option.map (fun x => x.add (k * Y.z)) A) (n - k) (l.drop k) := by
  refine ⟨by rw [List.length_drop, h.1], fun hn => ?_⟩
  rw [if_neg (by omega)]
  obtain ⟨g, o, rfl, hc'⟩ := h.2 (by omega)
  have h2 := (h.from_ k c hk hc).2 hn
  rw [if_neg (by omega)] at h2
  obtain ⟨g', o', e, hh⟩ := h2
  injection e with e
  injection e with e1 e2
  subst e1 e2
  refine ⟨g, o + k * Y.z, ?_, hh⟩
  simp only [Option.map_some, Addr.add]
  split
  · rename_i h0
    rw [h0]; rfl
  · rfl

/-- Both cells of a result's box. -/
theorem twoset {w : World} {g : Nat} {a b : Value} (h0 : w.cell? ⟨g, 0, none⟩ = some a) (h1 : w.cell? ⟨g, 1, none⟩ = some b) (u v : Value) :
    ((w.setCell ⟨g, 0, none⟩ u).setCell ⟨g, 1, none⟩ v).cell? ⟨g, 0, none⟩ = some u ∧ ((w.setCell ⟨g, 0, none⟩ u).setCell ⟨g, 1, none⟩ v).cell? ⟨g, 1, none⟩ = some v ∧
      Only w ((w.setCell ⟨g, 0, none⟩ u).setCell ⟨g, 1, none⟩ v) (fun k => k = g) := by
  have n1 : (⟨g, 0, none⟩ : Addr) ≠ ⟨g, 1, none⟩ := by simp
  have n2 : (⟨g, 1, none⟩ : Addr) ≠ ⟨g, 0, none⟩ := by simp
  refine ⟨(World.cell?_setCell_other (h := n2) ..).trans (World.cell?_setCell_same _ _ _ h0), World.cell?_setCell_same _ _ _ ((World.cell?_setCell_other (h := n1) ..).trans h1), ?_⟩
  exact ((Only.refl w (fun k => k = g)).setCell ⟨g, 0, none⟩ u fun _ => rfl).setCell ⟨g, 1, none⟩ v fun _ => rfl

set_option maxHeartbeats 2000000 in
theorem rctrim_any {w : World} {A : Option Addr} {n c : Nat} {S : List VerS} {L : List Ver} {last : Int} (h : Md w A n c S L) (ha : Asc L last) (hn : n ≤ 1000000) (t : Int) :
    Calls Try.prog 13 #[.agg #[.slice A n c, .int .i64 last], .int .i64 t] w fun e w' => ∃ A' c', e = .returned (.tuple #[.agg #[.slice A' (n - trimN L t) c', .int .i64 last], .int .i64 (trimN L t)]) ∧ Md w' A' (n - trimN L t) c' (S.drop (trimN L t)) (L.drop (trimN L t)) ∧ Below w.heap.size w w' ∧ ∀ k, MdS A' (n - trimN L t) (S.drop (trimN L t)) k → MdS A n S k := by
  obtain ⟨wa, hwa⟩ : ∃ wa, (w.alloc (.cells #[.slice A n c, .int .i64 last] 28)).alloc (.cells #[.slice none 0 0, .int .i64 0] 28) = wa := ⟨_, rfl⟩
  have hb1 : Below w.heap.size w wa := by rw [← hwa]; exact ((Below.refl _ w).alloc (Nat.le_refl _) _).alloc (by simp) _
  have h1 := h.below hb1
  have hc0 : wa.cell? ⟨w.heap.size, 0, none⟩ = some (.slice A n c) := by rw [← hwa]; simp
  have hc1 : wa.cell? ⟨w.heap.size, 1, none⟩ = some (.int .i64 last) := by rw [← hwa]; simp
  have hr0 : wa.cell? ⟨w.heap.size + 1, 0, none⟩ = some (.slice none 0 0) := by rw [← hwa]; simp
  have hr1 : wa.cell? ⟨w.heap.size + 1, 1, none⟩ = some (.int .i64 0) := by rw [← hwa]; simp
  have hrf : ∀ j, wa.frozen? ⟨w.heap.size + 1, j, none⟩ = false := fun j => by rw [← hwa]; simp
  have hwz : wa.heap.size = w.heap.size + 2 := by rw [← hwa]; simp
  have hse := seen_any h1 ha hn t
  obtain ⟨U, hU⟩ : ∃ U, upn L t = U := ⟨_, rfl⟩
  have hUn : U ≤ n := by rw [← hU, ← h.len]; exact upn_le _ _
  have hml := h.len
  have hnc := h.nc
  have hcm := h.cm
  unfold maxLen at hcm
  rw [hU] at hse
  by_cases hz : U = 0
  · subst hz
    rw [trimN_zero hU]
    clear hU hml
    have HWA := Lib.hid hwa
    clear hwa
    go_enter Try.func13, Try.ntmps13
    go_wp2_with fail
    rw [HWA.out]
    refine hse.mono ?_
    rintro e w2 ⟨rfl, hb2⟩
    have e1 : ((0 : Nat) : Int) - 1 = -1 := rfl
    have x0 := cell_below hb2 hc0
    have x1 := cell_below hb2 hc1
    have x2 := cell_below hb2 hr0
    have x3 := cell_below hb2 hr1
    have xf0 : w2.frozen? ⟨w.heap.size + 1, 0, none⟩ = false := ((bcell hb2).2 _ _ (by omega)).trans (hrf 0)
    have xf1 : w2.frozen? ⟨w.heap.size + 1, 1, none⟩ = false := ((bcell hb2).2 _ _ (by omega)).trans (hrf 1)
    have x3' : ∀ u, (w2.setCell ⟨w.heap.size + 1, 0, none⟩ u).cell? ⟨w.heap.size + 1, 1, none⟩ = some (.int .i64 0) := fun u => (World.cell?_setCell_other (h := by simp) ..).trans x3
    have xf1' : ∀ u, (w2.setCell ⟨w.heap.size + 1, 0, none⟩ u).frozen? ⟨w.heap.size + 1, 1, none⟩ = false := fun u => by rw [World.frozen?_setCell]; exact xf1
    have hM := h1.below hb2
    have hB := Below.next' hb1 hb2 hb1.size
    have hlt := h.lt
    clear hse h h1 hc0 hc1 hr0 hr1 hrf hb2
    go_wp2
    obtain ⟨y0, y1, hset⟩ := twoset x2 x3 (.slice A n c) (.int .i64 last)
    refine bodyPost_ret (v := .tuple #[.agg #[.slice A n c, .int .i64 last], .int .i64 0]) (by simp [results, Try.results13, go_sem, y0, y1]) rfl ⟨A, c, rfl, ?_, ?_, fun k hk => hk⟩
    · exact hM.only hset fun k hk e => by
        have := hlt k hk
        omega
    · exact (hB.setCell (p := ⟨w.heap.size + 1, 0, none⟩) (by simp) _).setCell (p := ⟨w.heap.size + 1, 1, none⟩) (by simp) _
  · obtain ⟨k, rfl⟩ : ∃ k, U = k + 1 := ⟨U - 1, by omega⟩
    obtain ⟨x, hx⟩ : ∃ x, L[k]? = some x := ⟨_, List.getElem?_eq_getElem (show k < L.length by omega)⟩
    rw [trimN_at hU hx]
    rw [show (((k + 1 : Nat) : Int) - 1) = (k : Int) by omega] at hse
    have hd0 : decide ((k : Int) < 0) = false := decide_eq_false (by omega)
    clear hU hz hml
    have HWA := Lib.hid hwa
    clear hwa
    by_cases hg : x.gone = true
    · rw [if_pos hg]
      obtain ⟨T, hT⟩ : ∃ T, k + 1 = T := ⟨_, rfl⟩
      rw [hT]
      go_enter Try.func13, Try.ntmps13
      go_wp2_with fail
      rw [HWA.out]
      refine hse.mono ?_
      rintro e w2 ⟨rfl, hb2⟩
      have hM := h1.below hb2
      have hB := Below.next' hb1 hb2 hb1.size
      obtain ⟨p, o, s, rfl, _, _, hc2, _, _, _, _, hkn⟩ := hM.elem hx
      rw [show x.gone = true by simpa using hg] at hc2
      have x0 := cell_below hb2 hc0
      have x1 := cell_below hb2 hc1
      have x2 := cell_below hb2 hr0
      have x3 := cell_below hb2 hr1
      have xf0 : w2.frozen? ⟨w.heap.size + 1, 0, none⟩ = false := ((bcell hb2).2 _ _ (by omega)).trans (hrf 0)
      have xf1 : w2.frozen? ⟨w.heap.size + 1, 1, none⟩ = false := ((bcell hb2).2 _ _ (by omega)).trans (hrf 1)
      have x3' : ∀ u, (w2.setCell ⟨w.heap.size + 1, 0, none⟩ u).cell? ⟨w.heap.size + 1, 1, none⟩ = some (.int .i64 0) := fun u => (World.cell?_setCell_other (h := by simp) ..).trans x3
      have xf1' : ∀ u, (w2.setCell ⟨w.heap.size + 1, 0, none⟩ u).frozen? ⟨w.heap.size + 1, 1, none⟩ = false := fun u => by rw [World.frozen?_setCell]; exact xf1
      have hlt := h.lt
      have hTn : T ≤ n := by omega
      have hTc : T ≤ c := by omega
      have eT : (k : Int) + 1 = (T : Int) := by omega
      obtain ⟨Ad, hAd⟩ : ∃ Ad : Addr, (if c = T then some (⟨p, o, none⟩ : Addr) else some ⟨p, o + T * 3, none⟩) = some Ad := by
        by_cases h' : c = T
        · exact ⟨_, by rw [if_pos h']⟩
        · exact ⟨_, by rw [if_neg h']⟩
      have hsg : SegG verLay w2 (some Ad) (n - T) (S.drop T) := by
        rw [← hAd]
        exact hM.seg.from_ T c hTn hnc
      have hsb : ∀ k', MdS (some Ad) (n - T) (S.drop T) k' → MdS (some ⟨p, o, none⟩) n S k' := by
        rintro k' (⟨hn', a, ha', rfl⟩ | hk')
        · refine .inl ⟨by omega, ⟨p, o, none⟩, rfl, ?_⟩
          rw [← hAd] at ha'
          split at ha' <;> (injection ha' with ha'; rw [← ha'])
        · exact .inr (VerB.drop hk')
      have hM2 : Md w2 (some Ad) (n - T) (c - T) (S.drop T) (L.drop T) := ⟨hsg, hM.rows.drop T, by omega, by unfold maxLen; omega⟩
      clear hse h h1 hc0 hc1 hr0 hr1 hrf hb2 hsg hM hx
      go_wp2
      refine wp_region_noPanic (wp_region_till (fun W' => W'.cell? ⟨w.heap.size, 0, none⟩ = some (.slice (some ⟨p, o, none⟩) n c) ∧ W'.cell? ⟨w.heap.size, 1, none⟩ = some (.int .i64 last)) 9 (by kernel_rfl) ?_)
      have hB := Below.drewP hB 1
      have hM2 : Md (w2.drewN 1) (some Ad) (n - T) (c - T) (S.drop T) (L.drop T) := ⟨hM2.seg, hM2.rows, hM2.nc, hM2.cm⟩
      change wpAnyT _ _ _ _ _ _ 10 _ _ (w2.drewN 1)
      have x0 : (w2.drewN 1).cell? ⟨w.heap.size, 0, none⟩ = some (.slice (some ⟨p, o, none⟩) n c) := x0
      have x1 : (w2.drewN 1).cell? ⟨w.heap.size, 1, none⟩ = some (.int .i64 last) := x1
      have x2 : (w2.drewN 1).cell? ⟨w.heap.size + 1, 0, none⟩ = some (.slice none 0 0) := x2
      have x3 : (w2.drewN 1).cell? ⟨w.heap.size + 1, 1, none⟩ = some (.int .i64 0) := x3
      have xf0 : (w2.drewN 1).frozen? ⟨w.heap.size + 1, 0, none⟩ = false := xf0
      have x3' : ∀ u, ((w2.drewN 1).setCell ⟨w.heap.size + 1, 0, none⟩ u).cell? ⟨w.heap.size + 1, 1, none⟩ = some (.int .i64 0) := fun u => x3' u
      have xf1' : ∀ u, ((w2.drewN 1).setCell ⟨w.heap.size + 1, 0, none⟩ u).frozen? ⟨w.heap.size + 1, 1, none⟩ = false := fun u => xf1' u
      clear hc2 xf1
      generalize w2.drewN 1 = w3 at *
      refine wpAnyT_take (i := 0) (v := .pointer (some ⟨w.heap.size, 0, none⟩)) rfl (by kernel_rfl) (fun _ _ _ h => h) ⟨x0, x1⟩ (Or.inl ⟨rfl, fun W' hW => by obtain ⟨q0, q1⟩ := hW; go_simp⟩) ?_
      refine wpAnyT_take (i := 1) (v := .slice (some ⟨p, o, none⟩) n c) rfl (by kernel_rfl) (fun _ _ _ h => h) ⟨x0, x1⟩ (Or.inl ⟨rfl, fun W' hW => by obtain ⟨q0, q1⟩ := hW; go_simp⟩) ?_
      refine wpAnyT_take (i := 2) (v := .int .i64 T) rfl (by kernel_rfl) (fun _ _ _ h => h) ⟨x0, x1⟩ (Or.inl ⟨rfl, fun W' hW => by obtain ⟨q0, q1⟩ := hW; go_simp⟩) ?_
      refine wpAnyT_take (i := 3) (v := .slice (some Ad) (n - T) (c - T)) rfl (by kernel_rfl) (fun _ _ _ h => h) ⟨x0, x1⟩ (Or.inl ⟨rfl, fun W' hW => by obtain ⟨q0, q1⟩ := hW; go_simp⟩) ?_
      refine wpAnyT_take (i := 4) (v := .pointer (some ⟨w.heap.size, 1, none⟩)) rfl (by kernel_rfl) (fun _ _ _ h => h) ⟨x0, x1⟩ (Or.inl ⟨rfl, fun W' hW => by obtain ⟨q0, q1⟩ := hW; go_simp⟩) ?_
      refine wpAnyT_take (i := 5) (v := .int .i64 last) rfl (by kernel_rfl) (fun _ _ _ h => h) ⟨x0, x1⟩ (Or.inl ⟨rfl, fun W' hW => by obtain ⟨q0, q1⟩ := hW; go_simp⟩) ?_
      refine wpAnyT_take (i := 6) (v := .agg #[.slice (some Ad) (n - T) (c - T), .int .i64 last]) rfl (by kernel_rfl) (fun _ _ _ h => h) ⟨x0, x1⟩ (Or.inl ⟨rfl, fun W' hW => by obtain ⟨q0, q1⟩ := hW; go_simp⟩) ?_
      refine wpAnyT_take (i := 7) (v := .int .i64 T) rfl (by kernel_rfl) (fun _ _ _ h => h) ⟨x0, x1⟩ (Or.inl ⟨rfl, fun W' hW => by obtain ⟨q0, q1⟩ := hW; go_simp⟩) ?_
      refine wpAnyT_step 8 rfl (by kernel_rfl) ?_
      go_wp2_with fail
      obtain ⟨y0, y1, hset⟩ := twoset x2 x3 (.slice (some Ad) (n - T) (c - T)) (.int .i64 last)
      have hne : ∀ j, (⟨w.heap.size, j, none⟩ : Addr).block ≠ w.heap.size + 1 := fun j => by simp
      refine ⟨.inr ⟨hset.cell x0 (hne 0), hset.cell x1 (hne 1)⟩, ?_⟩
      refine wpAnyT_step 9 rfl (by kernel_rfl) ?_
      go_wp2_with fail
      refine ⟨of_decide_eq_true (by kernel_rfl), NoPanic.normal ?_⟩
      go_wp2
      refine bodyPost_ret (v := .tuple #[.agg #[.slice (some Ad) (n - T) (c - T), .int .i64 last], .int .i64 T]) (by simp [results, Try.results13, go_sem, y0, y1]) rfl ⟨some Ad, c - T, rfl, ?_, ?_, hsb⟩
      · exact hM2.only hset fun k' hk' e => by
          have := hlt k' (hsb k' hk')
          omega
      · exact (hB.setCell (p := ⟨w.heap.size + 1, 0, none⟩) (by simp) _).setCell (p := ⟨w.heap.size + 1, 1, none⟩) (by simp) _
    · rw [if_neg hg]
      go_enter Try.func13, Try.ntmps13
      go_wp2_with fail
      rw [HWA.out]
      refine hse.mono ?_
      rintro e w2 ⟨rfl, hb2⟩
      have hM := h1.below hb2
      have hB := Below.next' hb1 hb2 hb1.size
      obtain ⟨p, o, s, rfl, _, _, hc2, _, _, _, _, hkn⟩ := hM.elem hx
      rw [show x.gone = false by simpa using hg] at hc2
      have x0 := cell_below hb2 hc0
      have x1 := cell_below hb2 hc1
      have x2 := cell_below hb2 hr0
      have x3 := cell_below hb2 hr1
      have xf0 : w2.frozen? ⟨w.heap.size + 1, 0, none⟩ = false := ((bcell hb2).2 _ _ (by omega)).trans (hrf 0)
      have xf1 : w2.frozen? ⟨w.heap.size + 1, 1, none⟩ = false := ((bcell hb2).2 _ _ (by omega)).trans (hrf 1)
      have x3' : ∀ u, (w2.setCell ⟨w.heap.size + 1, 0, none⟩ u).cell? ⟨w.heap.size + 1, 1, none⟩ = some (.int .i64 0) := fun u => (World.cell?_setCell_other (h := by simp) ..).trans x3
      have xf1' : ∀ u, (w2.setCell ⟨w.heap.size + 1, 0, none⟩ u).frozen? ⟨w.heap.size + 1, 1, none⟩ = false := fun u => by rw [World.frozen?_setCell]; exact xf1
      have hlt := h.lt
      have hTn : k ≤ n := by omega
      have hTc : k ≤ c := by omega
      obtain ⟨Ad, hAd⟩ : ∃ Ad : Addr, (if c = k then some (⟨p, o, none⟩ : Addr) else some ⟨p, o + k * 3, none⟩) = some Ad := by
        by_cases h' : c = k
        · exact ⟨_, by rw [if_pos h']⟩
        · exact ⟨_, by rw [if_neg h']⟩
      have hsg : SegG verLay w2 (some Ad) (n - k) (S.drop k) := by
        rw [← hAd]
        exact hM.seg.from_ k c hTn hnc
      have hsb : ∀ k', MdS (some Ad) (n - k) (S.drop k) k' → MdS (some ⟨p, o, none⟩) n S k' := by
        rintro k' (⟨hn', a, ha', rfl⟩ | hk')
        · refine .inl ⟨by omega, ⟨p, o, none⟩, rfl, ?_⟩
          rw [← hAd] at ha'
          split at ha' <;> (injection ha' with ha'; rw [← ha'])
        · exact .inr (VerB.drop hk')
      have hM2 : Md w2 (some Ad) (n - k) (c - k) (S.drop k) (L.drop k) := ⟨hsg, hM.rows.drop k, by omega, by unfold maxLen; omega⟩
      clear hse h h1 hc0 hc1 hr0 hr1 hrf hb2 hsg hM hx
      go_wp2
      refine wp_region_noPanic (wp_region_till (fun W' => W'.cell? ⟨w.heap.size, 0, none⟩ = some (.slice (some ⟨p, o, none⟩) n c) ∧ W'.cell? ⟨w.heap.size, 1, none⟩ = some (.int .i64 last)) 9 (by kernel_rfl) ?_)
      have hB := Below.drewP hB 1
      have hM2 : Md (w2.drewN 1) (some Ad) (n - k) (c - k) (S.drop k) (L.drop k) := ⟨hM2.seg, hM2.rows, hM2.nc, hM2.cm⟩
      change wpAnyT _ _ _ _ _ _ 10 _ _ (w2.drewN 1)
      have x0 : (w2.drewN 1).cell? ⟨w.heap.size, 0, none⟩ = some (.slice (some ⟨p, o, none⟩) n c) := x0
      have x1 : (w2.drewN 1).cell? ⟨w.heap.size, 1, none⟩ = some (.int .i64 last) := x1
      have x2 : (w2.drewN 1).cell? ⟨w.heap.size + 1, 0, none⟩ = some (.slice none 0 0) := x2
      have x3 : (w2.drewN 1).cell? ⟨w.heap.size + 1, 1, none⟩ = some (.int .i64 0) := x3
      have xf0 : (w2.drewN 1).frozen? ⟨w.heap.size + 1, 0, none⟩ = false := xf0
      have x3' : ∀ u, ((w2.drewN 1).setCell ⟨w.heap.size + 1, 0, none⟩ u).cell? ⟨w.heap.size + 1, 1, none⟩ = some (.int .i64 0) := fun u => x3' u
      have xf1' : ∀ u, ((w2.drewN 1).setCell ⟨w.heap.size + 1, 0, none⟩ u).frozen? ⟨w.heap.size + 1, 1, none⟩ = false := fun u => xf1' u
      clear hc2 xf1
      generalize w2.drewN 1 = w3 at *
      refine wpAnyT_take (i := 0) (v := .pointer (some ⟨w.heap.size, 0, none⟩)) rfl (by kernel_rfl) (fun _ _ _ h => h) ⟨x0, x1⟩ (Or.inl ⟨rfl, fun W' hW => by obtain ⟨q0, q1⟩ := hW; go_simp⟩) ?_
      refine wpAnyT_take (i := 1) (v := .slice (some ⟨p, o, none⟩) n c) rfl (by kernel_rfl) (fun _ _ _ h => h) ⟨x0, x1⟩ (Or.inl ⟨rfl, fun W' hW => by obtain ⟨q0, q1⟩ := hW; go_simp⟩) ?_
      refine wpAnyT_take (i := 2) (v := .int .i64 k) rfl (by kernel_rfl) (fun _ _ _ h => h) ⟨x0, x1⟩ (Or.inl ⟨rfl, fun W' hW => by obtain ⟨q0, q1⟩ := hW; go_simp⟩) ?_
      refine wpAnyT_take (i := 3) (v := .slice (some Ad) (n - k) (c - k)) rfl (by kernel_rfl) (fun _ _ _ h => h) ⟨x0, x1⟩ (Or.inl ⟨rfl, fun W' hW => by obtain ⟨q0, q1⟩ := hW; go_simp⟩) ?_
      refine wpAnyT_take (i := 4) (v := .pointer (some ⟨w.heap.size, 1, none⟩)) rfl (by kernel_rfl) (fun _ _ _ h => h) ⟨x0, x1⟩ (Or.inl ⟨rfl, fun W' hW => by obtain ⟨q0, q1⟩ := hW; go_simp⟩) ?_
      refine wpAnyT_take (i := 5) (v := .int .i64 last) rfl (by kernel_rfl) (fun _ _ _ h => h) ⟨x0, x1⟩ (Or.inl ⟨rfl, fun W' hW => by obtain ⟨q0, q1⟩ := hW; go_simp⟩) ?_
      refine wpAnyT_take (i := 6) (v := .agg #[.slice (some Ad) (n - k) (c - k), .int .i64 last]) rfl (by kernel_rfl) (fun _ _ _ h => h) ⟨x0, x1⟩ (Or.inl ⟨rfl, fun W' hW => by obtain ⟨q0, q1⟩ := hW; go_simp⟩) ?_
      refine wpAnyT_take (i := 7) (v := .int .i64 k) rfl (by kernel_rfl) (fun _ _ _ h => h) ⟨x0, x1⟩ (Or.inl ⟨rfl, fun W' hW => by obtain ⟨q0, q1⟩ := hW; go_simp⟩) ?_
      refine wpAnyT_step 8 rfl (by kernel_rfl) ?_
      go_wp2_with fail
      obtain ⟨y0, y1, hset⟩ := twoset x2 x3 (.slice (some Ad) (n - k) (c - k)) (.int .i64 last)
      have hne : ∀ j, (⟨w.heap.size, j, none⟩ : Addr).block ≠ w.heap.size + 1 := fun j => by simp
      refine ⟨.inr ⟨hset.cell x0 (hne 0), hset.cell x1 (hne 1)⟩, ?_⟩
      refine wpAnyT_step 9 rfl (by kernel_rfl) ?_
      go_wp2_with fail
      refine ⟨of_decide_eq_true (by kernel_rfl), NoPanic.normal ?_⟩
      go_wp2
      refine bodyPost_ret (v := .tuple #[.agg #[.slice (some Ad) (n - k) (c - k), .int .i64 last], .int .i64 k]) (by simp [results, Try.results13, go_sem, y0, y1]) rfl ⟨some Ad, c - k, rfl, ?_, ?_, hsb⟩
      · exact hM2.only hset fun k' hk' e => by
          have := hlt k' (hsb k' hk')
          omega
      · exact (hB.setCell (p := ⟨w.heap.size + 1, 0, none⟩) (by simp) _).setCell (p := ⟨w.heap.size + 1, 1, none⟩) (by simp) _

end Go.Proofs.Ytandlkflnfiikaa
