/-
  The walk of a chain's Put where it takes a version.
-/
import Derived.Test.YtandlkflnfiikaaCH4
namespace Go.Proofs.Ytandlkflnfiikaa
open Go.RowKit

set_option maxRecDepth 8000 in
set_option maxHeartbeats 8000000 in
theorem cput_ok {w : World} {B g : Nat} {v : Value} {S : List VerS} {L : List Ver} {last : Int} (h : Ch w B g v S L last) (hl : L.length ≤ 1000000) (t : Int) (ht : last < t) (A : Option Addr) (n c : Nat) (l : List UInt8) (b : Bool) (ha : Seg w A n l) (hn : n ≤ 1000000) :
    Calls Try.prog 12 #[.pointer (some ⟨g, 0, none⟩), .int .i64 t, .slice A n c, .bool b] w fun e w' => e = .returned (.int .i64 0) ∧ ∃ v' S', Ch w' B g v' S' (L ++ [strip ⟨t, l, b⟩]) t ∧ Only w w' (DkS g v) ∧ ∀ k, ChS g v' S' k → ChS g v S k ∨ w.heap.size ≤ k := by
  obtain ⟨A0, c0, rfl, _, hlc, hcm⟩ := h.own.forms
  have hSl : S.length ≤ 1000000 := by rw [h.rows.1]; exact hl
  have h1 := h.h1
  rcases b with _ | _
  · -- gone: false
    go_enter Try.func12, Try.ntmps12
    go_wp2
    refine wp_region_noPanic (wp_region_till (fun W' => W'.cell? ⟨g, 0, none⟩ = some (.slice A0 S.length c0)) 14 (by kernel_rfl) ?_)
    have hS : Seg (w.drewN 1) A n l := ha
    have hC := h.drewN 1
    have hob : Only w (w.drewN 1) (DkS g (.slice A0 S.length c0)) := (Only.refl _ _).drewN 1
    change wpAnyT _ _ _ _ _ _ 15 _ _ (w.drewN 1)
    have hz0 : (w.drewN 1).heap.size = w.heap.size := rfl
    clear h ha
    generalize w.drewN 1 = w0 at *
    have h0 := hC.h0
    refine wpAnyT_take (i := 0) (v := .pointer (some ⟨g, 0, none⟩)) rfl (by kernel_rfl) (fun _ _ _ h => h) h0 (Or.inl ⟨rfl, fun W' hW => by go_simp⟩) ?_
    refine wpAnyT_take (i := 1) (v := .pointer (some ⟨g, 0, none⟩)) rfl (by kernel_rfl) (fun _ _ _ h => h) h0 (Or.inl ⟨rfl, fun W' hW => by go_simp⟩) ?_
    refine wpAnyT_take (i := 2) (v := .pointer (some ⟨g, 0, none⟩)) rfl (by kernel_rfl) (fun _ _ _ h => h) h0 (Or.inl ⟨rfl, fun W' hW => by go_simp⟩) ?_
    refine wpAnyT_take (i := 3) (v := .pointer (some ⟨g, 0, none⟩)) rfl (by kernel_rfl) (fun _ _ _ h => h) h0 (Or.inl ⟨rfl, fun W' hW => by go_simp⟩) ?_
    refine wpAnyT_take (i := 4) (v := .slice A0 S.length c0) rfl (by kernel_rfl) (fun _ _ _ h => h) h0 (Or.inl ⟨rfl, fun W' hW => by go_simp⟩) ?_
    refine wpAnyT_take (i := 5) (v := .int .i64 t) rfl (by kernel_rfl) (fun _ _ _ h => h) h0 (Or.inl ⟨rfl, fun W' hW => by go_simp⟩) ?_
    refine wpAnyT_take (i := 6) (v := .slice A n c) rfl (by kernel_rfl) (fun _ _ _ h => h) h0 (Or.inl ⟨rfl, fun W' hW => by go_simp⟩) ?_
    refine wpAnyT_take (i := 8) (v := .bool false) rfl (by kernel_rfl) (fun _ _ _ h => h) h0 (Or.inl ⟨rfl, fun W' hW => by go_simp⟩) ?_
    refine wpAnyT_step 7 rfl (by kernel_rfl) ?_
    go_wp2_with fail
    refine (clone_any A n c l _ hS (by omega)).mono ?_
    rintro e w1 ⟨v1, rfl, ho1, hb1⟩
    obtain ⟨A1, c1, rfl, hs1, hl1, hm1⟩ := ho1.forms
    have hlt1 := ho1.lt
    have hC1 := hC.below hb1
    have h01 := hC1.h0
    have hb1s := hb1.size
    have hgl := hC.lt g (.inl (.inl rfl))
    have hdl := hC.lt
    have hge := hC.ge g (.inl (.inl rfl))
    have hob1 := hob.trans (Only.of_below (S := fun _ => False) hb1) fun _ _ h => h.elim
    obtain ⟨lq, hlq⟩ : ∃ lq, lq = (l : List UInt8).length := ⟨_, rfl⟩
    rw [← hlq] at hs1 hl1 hlt1 ⊢
    clear hS hC h0 hb1 ho1 hob hlq
    go_wp2_with fail
    refine ⟨.inr h01, ?_⟩
    refine wpAnyT_step 9 rfl (by kernel_rfl) ?_
    go_wp2_with fail
    refine ⟨.inr h01, ?_⟩
    refine wpAnyT_step 10 rfl (by kernel_rfl) ?_
    go_wp2_with fail
    have h02 := cell_alloc (.cells #[.int .i64 t, .slice A1 lq c1, .bool false] 59) h01
    refine ⟨.inr h02, ?_⟩
    refine wpAnyT_step 11 rfl (by kernel_rfl) ?_
    refine wpList_append_G _ rfl (.tmp 22) (.tmp 28) _ _ _ _ verT rfl B (.slice A0 S.length c0) S (by go_simp) (hC1.own.alloc _) (some ⟨w1.heap.size, 0, none⟩) 1 1 ([⟨t, A1, lq, c1, false⟩] : List VerS) (by go_simp) (SegG.newAt w1 ([⟨t, A1, lq, c1, false⟩] : List VerS) _ _ _ 1 rfl rfl rfl) (by omega) (by simp; omega) ?_
    intro v2 w2 hown2 hg2 hat2
    go_wp2_with fail
    have hat3 := hat2
    have hon2 : Only w1 w2 (fun k => (Value.slice A0 S.length c0).ownBlock = some k) := ((Only.refl w1 _).alloc _).trans (Only.of_grown (S := fun k => (Value.slice A0 S.length c0).ownBlock = some k) hg2 fun k hk => hk) fun _ _ h => h
    have h03 : w2.cell? ⟨g, 0, none⟩ = some (.slice A0 S.length c0) := hon2.cell h01 hC1.ap
    have h13 : w2.cell? ⟨g, 1, none⟩ = some (.int .i64 last) := hon2.cell hC1.h1 hC1.ap
    have hf3 : ∀ j, w2.frozen? ⟨g, j, none⟩ = false := fun j => (hon2.froz hC1.h0 hC1.ap ⟨g, j, none⟩ rfl).trans (hC1.fr j)
    have hf30 := hf3 0
    have hf31 := hf3 1
    have hput := Ch.put (o := .cells #[.int .i64 t, .slice A1 lq c1, .bool false] 59) hC1 rfl (s := ⟨t, A1, lq, c1, false⟩) (x := strip ⟨t, l, false⟩) ⟨rfl, hs1, hl1, hm1, rfl⟩ ht
      (fun hm a ha => by
        have ha : A1 = some a := ha
        have h1 := hlt1 a.block (by rw [ha]; rfl)
        refine ⟨fun hd => ?_, by omega⟩
        have := hdl a.block (.inl hd)
        omega) hown2 hg2 hat2
    have hat4 : ∀ k, v2.ownBlock = some k → (Value.slice A0 S.length c0).ownBlock = some k ∨ w0.heap.size ≤ k := by
      intro k hk
      rcases hat3 with e | e
      · exact .inl (by rw [← e]; exact hk)
      · rw [e] at hk
        injection hk with hk
        have hz : (w1.alloc (.cells #[.int .i64 t, .slice A1 lq c1, .bool false] 59)).heap.size = w1.heap.size + 1 := by simp
        exact .inr (by omega)
    have hfin : ∀ W3, Only w2 W3 (fun k => k = g) → Only w W3 (DkS g (.slice A0 S.length c0)) := fun W3 h3 => (hob1.trans hon2 fun _ _ h => .inr h).trans h3 fun _ _ h => .inl h
    obtain ⟨A2, c2, hv2, _, hl2, hm2⟩ := hown2.forms
    subst hv2
    obtain ⟨N2, hN2⟩ : ∃ N2, (S ++ [(⟨t, A1, lq, c1, false⟩ : VerS)]).length = N2 := ⟨_, rfl⟩
    have HB : ∀ k, VerB (S ++ [(⟨t, A1, lq, c1, false⟩ : VerS)]) k → VerB S k ∨ w0.heap.size ≤ k := by
      intro k hk
      rcases VerB.push hk with hk | ⟨hm, a, ha, rfl⟩
      · exact .inl hk
      · exact .inr (hlt1 a.block (by have ha : A1 = some a := ha; rw [ha]; rfl)).1
    rw [hN2] at hput hat4 ⊢
    clear hN2 hl2 hown2 hg2 hat2 hat3 hon2 hC1 h01 h02 hs1 hl1 hlt1 hdl hob1 hm1
    refine ⟨.inr h03, ?_⟩
    refine wpAnyT_step 12 rfl (by kernel_rfl) ?_
    go_wp2_with fail
    refine ⟨.inr h03, ?_⟩
    refine wpAnyT_step 13 rfl (by kernel_rfl) ?_
    go_wp2_with fail
    refine ⟨.inr h03, ?_⟩
    refine wpAnyT_step 14 rfl (by kernel_rfl) ?_
    go_wp2_with fail
    refine ⟨.inl trivial, ?_⟩
    refine wpAnyT_done (by kernel_rfl) (NoPanic.normal ?_)
    have h14 : (w2.setCell ⟨g, 0, none⟩ (.slice A2 N2 c2)).cell? ⟨g, 1, none⟩ = some (.int .i64 last) := (World.cell?_setCell_other (h := by simp) ..).trans h13
    have hf4 : (w2.setCell ⟨g, 0, none⟩ (.slice A2 N2 c2)).frozen? ⟨g, 1, none⟩ = false := by rw [World.frozen?_setCell]; exact hf31
    go_wp2
    go_ret
    refine ⟨rfl, _, _, hput, hfin _ (((Only.refl w2 (fun k => k = g)).setCell ⟨g, 0, none⟩ (.slice A2 N2 c2) fun _ => rfl).setCell ⟨g, 1, none⟩ (.int .i64 t) fun _ => rfl), fun k hk => ?_⟩
    rcases hk with (rfl | hk) | hk
    · exact .inl (.inl (.inl rfl))
    · rcases hat4 k hk with e | e
      · exact .inl (.inl (.inr e))
      · exact .inr (by omega)
    · rcases HB k hk with e | e
      · exact .inl (.inr e)
      · exact .inr (by omega)
  · -- gone: true
    go_enter Try.func12, Try.ntmps12
    go_wp2
    refine wp_region_noPanic (wp_region_till (fun W' => W'.cell? ⟨g, 0, none⟩ = some (.slice A0 S.length c0)) 14 (by kernel_rfl) ?_)
    have hS : Seg (w.drewN 1) none 0 [] := Seg.nil _ _
    have hC := h.drewN 1
    have hob : Only w (w.drewN 1) (DkS g (.slice A0 S.length c0)) := (Only.refl _ _).drewN 1
    change wpAnyT _ _ _ _ _ _ 15 _ _ (w.drewN 1)
    have hz0 : (w.drewN 1).heap.size = w.heap.size := rfl
    clear h ha
    generalize w.drewN 1 = w0 at *
    have h0 := hC.h0
    refine wpAnyT_take (i := 0) (v := .pointer (some ⟨g, 0, none⟩)) rfl (by kernel_rfl) (fun _ _ _ h => h) h0 (Or.inl ⟨rfl, fun W' hW => by go_simp⟩) ?_
    refine wpAnyT_take (i := 1) (v := .pointer (some ⟨g, 0, none⟩)) rfl (by kernel_rfl) (fun _ _ _ h => h) h0 (Or.inl ⟨rfl, fun W' hW => by go_simp⟩) ?_
    refine wpAnyT_take (i := 2) (v := .pointer (some ⟨g, 0, none⟩)) rfl (by kernel_rfl) (fun _ _ _ h => h) h0 (Or.inl ⟨rfl, fun W' hW => by go_simp⟩) ?_
    refine wpAnyT_take (i := 3) (v := .pointer (some ⟨g, 0, none⟩)) rfl (by kernel_rfl) (fun _ _ _ h => h) h0 (Or.inl ⟨rfl, fun W' hW => by go_simp⟩) ?_
    refine wpAnyT_take (i := 4) (v := .slice A0 S.length c0) rfl (by kernel_rfl) (fun _ _ _ h => h) h0 (Or.inl ⟨rfl, fun W' hW => by go_simp⟩) ?_
    refine wpAnyT_take (i := 5) (v := .int .i64 t) rfl (by kernel_rfl) (fun _ _ _ h => h) h0 (Or.inl ⟨rfl, fun W' hW => by go_simp⟩) ?_
    refine wpAnyT_take (i := 6) (v := .slice none 0 0) rfl (by kernel_rfl) (fun _ _ _ h => h) h0 (Or.inl ⟨rfl, fun W' hW => by go_simp⟩) ?_
    refine wpAnyT_take (i := 8) (v := .bool true) rfl (by kernel_rfl) (fun _ _ _ h => h) h0 (Or.inl ⟨rfl, fun W' hW => by go_simp⟩) ?_
    refine wpAnyT_step 7 rfl (by kernel_rfl) ?_
    go_wp2_with fail
    refine (clone_any none 0 0 [] _ hS (by omega)).mono ?_
    rintro e w1 ⟨v1, rfl, ho1, hb1⟩
    obtain ⟨A1, c1, rfl, hs1, hl1, hm1⟩ := ho1.forms
    have hlt1 := ho1.lt
    have hC1 := hC.below hb1
    have h01 := hC1.h0
    have hb1s := hb1.size
    have hgl := hC.lt g (.inl (.inl rfl))
    have hdl := hC.lt
    have hge := hC.ge g (.inl (.inl rfl))
    have hob1 := hob.trans (Only.of_below (S := fun _ => False) hb1) fun _ _ h => h.elim
    obtain ⟨lq, hlq⟩ : ∃ lq, lq = ([] : List UInt8).length := ⟨_, rfl⟩
    rw [← hlq] at hs1 hl1 hlt1 ⊢
    clear hS hC h0 hb1 ho1 hob hlq
    go_wp2_with fail
    refine ⟨.inr h01, ?_⟩
    refine wpAnyT_step 9 rfl (by kernel_rfl) ?_
    go_wp2_with fail
    refine ⟨.inr h01, ?_⟩
    refine wpAnyT_step 10 rfl (by kernel_rfl) ?_
    go_wp2_with fail
    have h02 := cell_alloc (.cells #[.int .i64 t, .slice A1 lq c1, .bool true] 59) h01
    refine ⟨.inr h02, ?_⟩
    refine wpAnyT_step 11 rfl (by kernel_rfl) ?_
    refine wpList_append_G _ rfl (.tmp 22) (.tmp 28) _ _ _ _ verT rfl B (.slice A0 S.length c0) S (by go_simp) (hC1.own.alloc _) (some ⟨w1.heap.size, 0, none⟩) 1 1 ([⟨t, A1, lq, c1, true⟩] : List VerS) (by go_simp) (SegG.newAt w1 ([⟨t, A1, lq, c1, true⟩] : List VerS) _ _ _ 1 rfl rfl rfl) (by omega) (by simp; omega) ?_
    intro v2 w2 hown2 hg2 hat2
    go_wp2_with fail
    have hat3 := hat2
    have hon2 : Only w1 w2 (fun k => (Value.slice A0 S.length c0).ownBlock = some k) := ((Only.refl w1 _).alloc _).trans (Only.of_grown (S := fun k => (Value.slice A0 S.length c0).ownBlock = some k) hg2 fun k hk => hk) fun _ _ h => h
    have h03 : w2.cell? ⟨g, 0, none⟩ = some (.slice A0 S.length c0) := hon2.cell h01 hC1.ap
    have h13 : w2.cell? ⟨g, 1, none⟩ = some (.int .i64 last) := hon2.cell hC1.h1 hC1.ap
    have hf3 : ∀ j, w2.frozen? ⟨g, j, none⟩ = false := fun j => (hon2.froz hC1.h0 hC1.ap ⟨g, j, none⟩ rfl).trans (hC1.fr j)
    have hf30 := hf3 0
    have hf31 := hf3 1
    have hput := Ch.put (o := .cells #[.int .i64 t, .slice A1 lq c1, .bool true] 59) hC1 rfl (s := ⟨t, A1, lq, c1, true⟩) (x := strip ⟨t, l, true⟩) ⟨rfl, hs1, hl1, hm1, rfl⟩ ht
      (fun hm a ha => by
        have ha : A1 = some a := ha
        have h1 := hlt1 a.block (by rw [ha]; rfl)
        refine ⟨fun hd => ?_, by omega⟩
        have := hdl a.block (.inl hd)
        omega) hown2 hg2 hat2
    have hat4 : ∀ k, v2.ownBlock = some k → (Value.slice A0 S.length c0).ownBlock = some k ∨ w0.heap.size ≤ k := by
      intro k hk
      rcases hat3 with e | e
      · exact .inl (by rw [← e]; exact hk)
      · rw [e] at hk
        injection hk with hk
        have hz : (w1.alloc (.cells #[.int .i64 t, .slice A1 lq c1, .bool true] 59)).heap.size = w1.heap.size + 1 := by simp
        exact .inr (by omega)
    have hfin : ∀ W3, Only w2 W3 (fun k => k = g) → Only w W3 (DkS g (.slice A0 S.length c0)) := fun W3 h3 => (hob1.trans hon2 fun _ _ h => .inr h).trans h3 fun _ _ h => .inl h
    obtain ⟨A2, c2, hv2, _, hl2, hm2⟩ := hown2.forms
    subst hv2
    obtain ⟨N2, hN2⟩ : ∃ N2, (S ++ [(⟨t, A1, lq, c1, true⟩ : VerS)]).length = N2 := ⟨_, rfl⟩
    have HB : ∀ k, VerB (S ++ [(⟨t, A1, lq, c1, true⟩ : VerS)]) k → VerB S k ∨ w0.heap.size ≤ k := by
      intro k hk
      rcases VerB.push hk with hk | ⟨hm, a, ha, rfl⟩
      · exact .inl hk
      · exact .inr (hlt1 a.block (by have ha : A1 = some a := ha; rw [ha]; rfl)).1
    rw [hN2] at hput hat4 ⊢
    clear hN2 hl2 hown2 hg2 hat2 hat3 hon2 hC1 h01 h02 hs1 hl1 hlt1 hdl hob1 hm1
    refine ⟨.inr h03, ?_⟩
    refine wpAnyT_step 12 rfl (by kernel_rfl) ?_
    go_wp2_with fail
    refine ⟨.inr h03, ?_⟩
    refine wpAnyT_step 13 rfl (by kernel_rfl) ?_
    go_wp2_with fail
    refine ⟨.inr h03, ?_⟩
    refine wpAnyT_step 14 rfl (by kernel_rfl) ?_
    go_wp2_with fail
    refine ⟨.inl trivial, ?_⟩
    refine wpAnyT_done (by kernel_rfl) (NoPanic.normal ?_)
    have h14 : (w2.setCell ⟨g, 0, none⟩ (.slice A2 N2 c2)).cell? ⟨g, 1, none⟩ = some (.int .i64 last) := (World.cell?_setCell_other (h := by simp) ..).trans h13
    have hf4 : (w2.setCell ⟨g, 0, none⟩ (.slice A2 N2 c2)).frozen? ⟨g, 1, none⟩ = false := by rw [World.frozen?_setCell]; exact hf31
    go_wp2
    go_ret
    refine ⟨rfl, _, _, hput, hfin _ (((Only.refl w2 (fun k => k = g)).setCell ⟨g, 0, none⟩ (.slice A2 N2 c2) fun _ => rfl).setCell ⟨g, 1, none⟩ (.int .i64 t) fun _ => rfl), fun k hk => ?_⟩
    rcases hk with (rfl | hk) | hk
    · exact .inl (.inl (.inl rfl))
    · rcases hat4 k hk with e | e
      · exact .inl (.inl (.inr e))
      · exact .inr (by omega)
    · rcases HB k hk with e | e
      · exact .inl (.inr e)
      · exact .inr (by omega)

end Go.Proofs.Ytandlkflnfiikaa
