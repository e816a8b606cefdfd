/-
  The walk of the document's Fit.
-/
import Derived.Test.YtcmagjeplofagaaWT8
namespace Go.Proofs.Ytcmagjeplofagaa
open Go.RowKit

theorem fitOne_null {c : Col} {b : Nat} (h1 : c.b = true) (h2 : b % 4 = 3) : fitOne c b = V.none := by unfold fitOne; rw [if_pos ⟨h1, h2⟩]
theorem fitOne_int {c : Col} {b : Nat} (h1 : ¬ (c.b = true ∧ b % 4 = 3)) (h2 : c.k = 1) : fitOne c b = ⟨1, ((b % 8 : Nat) : Int) - 2, ⟨#[]⟩⟩ := by unfold fitOne; rw [if_neg h1, if_pos h2]
theorem fitOne_text {c : Col} {b : Nat} (h1 : ¬ (c.b = true ∧ b % 4 = 3)) (h2 : c.k ≠ 1) : fitOne c b = ⟨2, 0, fitTxt b⟩ := by unfold fitOne; rw [if_neg h1, if_neg h2]
theorem seg_txt (W : World) (o : Obj) (r : Nat) (hr : r ≤ 4) : Seg ((W.alloc o).alloc (.cells #[.int .u8 0, .int .u8 97, .int .u8 98, .int .u8 255] 5)) (some ⟨W.heap.size + 1, 0, none⟩) r (([0, 97, 98, 255] : List UInt8).take r) :=
  (Seg.newAt (W.alloc o) [0, 97, 98, 255] 5 _ _ 4 (by simp) rfl rfl).upto r hr
theorem run_txt (W : World) (x : Col) (v : Bool) (r b : Nat) (hr : r ≤ 4) (h : r = b % 4) :
    (convert 31 9 (.slice (some ⟨W.heap.size + 1, 0, none⟩) r 4)).run Try.prog ((W.alloc (.cells #[.string x.s, .int .u8 x.k, .bool v] 33)).alloc (.cells #[.int .u8 0, .int .u8 97, .int .u8 98, .int .u8 255] 5)) = .ok (.string (fitTxt b)) ((W.alloc (.cells #[.string x.s, .int .u8 x.k, .bool v] 33)).alloc (.cells #[.int .u8 0, .int .u8 97, .int .u8 98, .int .u8 255] 5)) := by
  rw [run_string_seg (P := Try.prog) _ 31 9 5 bt Try.underlying9 _ r 4 _ (seg_txt W _ r hr)]
  unfold fitTxt
  rw [← h]

set_option maxHeartbeats 2000000 in
theorem fitR_any (s : ByteArray) (K : Int) (A B : Option Addr) (n m c d : Nat) (cs : List Col) (l : List UInt8) (q : Nat) (w : World) (ha : SegC w A n cs) (hb : Seg w B m l) (hn : n ≤ 100) (_ : m ≤ 1000) (hq : q ≤ n) :
    Calls Try.prog 15 #[.agg #[.string s, .slice A n c, .int .i64 K], .int .i64 (q : Int), .slice B m d] w fun e w' => ∃ v, e = .returned v ∧ OwnV w' w.heap.size 41 v (fitVals (cs.take q) l 0) ∧ Below w.heap.size w w' := by
  have hla := ha.1
  have hlb := hb.1
  go_enter Try.func15, Try.ntmps15
  go_wp2
  go_loopw [7, 8] (fun p i w' => ∃ (k : Nat) (D : List V), k ≤ q ∧ i = .int .i64 k ∧ D = fitVals (cs.take k) l 0 ∧ D.length = k ∧ OwnV w' (w.heap.size + 1) 41 p D ∧ w'.cell? ⟨w.heap.size, 1, none⟩ = some (.slice A n c) ∧ w.heap.size + 1 ≤ w'.heap.size ∧ Below w.heap.size w w') (fun _ i _ => q - (intOf i).toNat)
  case atStart => exact ⟨0, [], Nat.zero_le _, rfl, rfl, rfl, OwnV.nil _ _ _, by simp, by simp, (Below.refl _ _).alloc (Nat.le_refl _) _⟩
  case round =>
    obtain ⟨k, D, hk, rfl, hD, hDl, hod, hbox, hws, hbw⟩ := hrel
    have HD := Lib.hid hD
    have HDL := Lib.hid hDl
    have hDl' : D.length ≤ 100 := by omega
    clear hD hDl
    obtain ⟨Ad, cd, rfl, hsd, hlcd, hcmd⟩ := hod.forms
    by_cases hlt : k < q
    · obtain ⟨g, o, rfl, h0, h1, h2⟩ := SegC.at_ (SegG.below ha hbw) (k := k) (by omega)
      have hsn := fitVals_snoc cs l k (by omega)
      generalize cs[k]'(by rw [ha.1]; omega) = x at *
      have HSN := Lib.hid hsn
      clear hsn
      have hkn : (k : Int) < (n : Int) := by omega
      have hkq : (k : Int) < (q : Int) := by omega
      by_cases hkl : k < m
      · obtain ⟨g', o', rfl, hc⟩ := (hb.below hbw).at_ hkl
        have hat : at0 l k = (l[k]'(by rw [hb.1]; exact hkl)).toNat := by
          unfold at0
          rw [List.getElem?_eq_getElem (by rw [hb.1]; exact hkl)]
          rfl
        have hlt0 := at0_lt l k
        rw [← hat] at hc
        obtain ⟨b, hbq⟩ : ∃ b, at0 l k = b := ⟨_, rfl⟩
        rw [hbq] at hc hlt0 HSN
        clear hat hbq
        have hb256 : (b : Int) < 256 := by omega
        obtain ⟨r, hr⟩ : ∃ r : Nat, (b : Int) % 4 = (r : Int) := ⟨b % 4, by omega⟩
        obtain ⟨u, hu⟩ : ∃ u : Nat, (b : Int) % 8 = (u : Int) := ⟨b % 8, by omega⟩
        have hr4 : r < 4 := by omega
        have hu8 : u < 8 := by omega
        have hrb : r = b % 4 := by omega
        have hub : u = b % 8 := by omega
        have HRB := Lib.hid hrb
        have HUB := Lib.hid hub
        clear hrb hub
        have hr0 : (0 : Int) ≤ (r : Int) := by omega
        have hr44 : (r : Int) ≤ 4 := by omega
        rcases hxb : x.b with _ | _
        · rw [hxb] at h2
          have hno : ¬ (x.b = true ∧ b % 4 = 3) := by rw [hxb]; simp
          by_cases hx1 : x.k = 1
          · have hx1' : (x.k == 1) = true := by simp [hx1]
            have e : fitOne x b = ⟨1, (u : Int) - 2, ⟨#[]⟩⟩ := by rw [HUB.out]; exact fitOne_int hno hx1
            rw [e] at HSN
            clear e hxb hno hx1
            go_wp2_with (
              at_builtin
              refine wpList_append_vals _ rfl (.tmp 61) (.tmp 67) _ _ vt rfl (w.heap.size + 1) _ D rfl ((hod.alloc _).alloc _) _ 1 1 [⟨1, (u : Int) - 2, ⟨#[]⟩⟩] rfl (SegV.newAt _ _ _ _ _ _ (by simp) rfl rfl) (by omega) (by simp; omega) ?_
              intro v3 w3 ho3 hg3 _
              obtain ⟨d3, hd3⟩ : ∃ d3, D ++ [⟨1, (u : Int) - 2, ⟨#[]⟩⟩] = d3 := ⟨_, rfl⟩
              have hl3 : d3.length = D.length + 1 := by rw [← hd3]; simp
              have hB3 := below_grownV (Below.refl (w.heap.size + 1) _) ((hod.alloc _).alloc _) hg3 (Nat.le_refl _) (by simp; omega)
              have hbox3 := (hB3.cell (p := ⟨w.heap.size, 1, none⟩) (by simp)).trans (cell_alloc _ (cell_alloc _ hbox))
              have hbw3 : Below w.heap.size w w3 := Below.trans ((hbw.alloc (by have := hbw.size; simp; omega) _).alloc (by have := hbw.size; simp; omega) _) (hB3.mono (by omega))
              have hws3 := hB3.size
              simp at hws3
              rw [hd3] at ho3
              have HD3 := Lib.hid hd3
              have HL3 := Lib.hid hl3
              clear hd3 hg3 hl3 hB3)
            go_roundw
            case rel => exact ⟨k + 1, d3, hlt, by go_num, by rw [← HD3.out, HD.out, HSN.out], by rw [HL3.out, HDL.out], ho3, hbox3, by omega, hbw3⟩
            case measure => simp [intOf]; omega
          · have hx1' : (x.k == 1) = false := by simp [hx1]
            have kc := run_txt wr x false r b (by omega) HRB.out
            have e : fitOne x b = ⟨2, 0, fitTxt b⟩ := fitOne_text hno hx1
            rw [e] at HSN
            clear e hxb hno hx1
            go_wp2_with (
              at_builtin
              refine wpList_append_vals _ rfl (.tmp 36) (.tmp 43) _ _ vt rfl (w.heap.size + 1) _ D rfl (((hod.alloc _).alloc _).alloc _) _ 1 1 [⟨2, 0, fitTxt b⟩] rfl (SegV.newAt _ _ _ _ _ _ (by simp) rfl rfl) (by omega) (by simp; omega) ?_
              intro v3 w3 ho3 hg3 _
              obtain ⟨d3, hd3⟩ : ∃ d3, D ++ [⟨2, 0, fitTxt b⟩] = d3 := ⟨_, rfl⟩
              have hl3 : d3.length = D.length + 1 := by rw [← hd3]; simp
              have hB3 := below_grownV (Below.refl (w.heap.size + 1) _) (((hod.alloc _).alloc _).alloc _) hg3 (Nat.le_refl _) (by simp; omega)
              have hbox3 := (hB3.cell (p := ⟨w.heap.size, 1, none⟩) (by simp)).trans (cell_alloc _ (cell_alloc _ (cell_alloc _ hbox)))
              have hbw3 : Below w.heap.size w w3 := Below.trans (((hbw.alloc (by have := hbw.size; simp; omega) _).alloc (by have := hbw.size; simp; omega) _).alloc (by have := hbw.size; simp; omega) _) (hB3.mono (by omega))
              have hws3 := hB3.size
              simp at hws3
              rw [hd3] at ho3
              have HD3 := Lib.hid hd3
              have HL3 := Lib.hid hl3
              clear hd3 hg3 hl3 hB3)
            go_roundw
            case rel => exact ⟨k + 1, d3, hlt, by go_num, by rw [← HD3.out, HD.out, HSN.out], by rw [HL3.out, HDL.out], ho3, hbox3, by omega, hbw3⟩
            case measure => simp [intOf]; omega
        · rw [hxb] at h2
          by_cases hr3 : r = 3
          · subst hr3
            have e : fitOne x b = V.none := fitOne_null hxb HRB.out.symm
            rw [e] at HSN
            clear e hxb
            go_wp2_with (
              at_builtin
              refine wpList_append_vals _ rfl (.tmp 53) (.tmp 55) _ _ vt rfl (w.heap.size + 1) _ D rfl ((hod.alloc _).alloc _) _ 1 1 [V.none] rfl (SegV.newAt _ _ _ _ _ _ (by simp) rfl rfl) (by omega) (by simp; omega) ?_
              intro v3 w3 ho3 hg3 _
              obtain ⟨d3, hd3⟩ : ∃ d3, D ++ [V.none] = d3 := ⟨_, rfl⟩
              have hl3 : d3.length = D.length + 1 := by rw [← hd3]; simp
              have hB3 := below_grownV (Below.refl (w.heap.size + 1) _) ((hod.alloc _).alloc _) hg3 (Nat.le_refl _) (by simp; omega)
              have hbox3 := (hB3.cell (p := ⟨w.heap.size, 1, none⟩) (by simp)).trans (cell_alloc _ (cell_alloc _ hbox))
              have hbw3 : Below w.heap.size w w3 := Below.trans ((hbw.alloc (by have := hbw.size; simp; omega) _).alloc (by have := hbw.size; simp; omega) _) (hB3.mono (by omega))
              have hws3 := hB3.size
              simp at hws3
              rw [hd3] at ho3
              have HD3 := Lib.hid hd3
              have HL3 := Lib.hid hl3
              clear hd3 hg3 hl3 hB3)
            go_roundw
            case rel => exact ⟨k + 1, d3, hlt, by go_num, by rw [← HD3.out, HD.out, HSN.out], by rw [HL3.out, HDL.out], ho3, hbox3, by omega, hbw3⟩
            case measure => simp [intOf]; omega
          · have hr3' : ((r : Int) == 3) = false := by rw [beq_eq_false_iff_ne]; omega
            have hno : ¬ (x.b = true ∧ b % 4 = 3) := by rw [hxb]; simp; have := HRB.out; omega
            by_cases hx1 : x.k = 1
            · have hx1' : (x.k == 1) = true := by simp [hx1]
              have e : fitOne x b = ⟨1, (u : Int) - 2, ⟨#[]⟩⟩ := by rw [HUB.out]; exact fitOne_int hno hx1
              rw [e] at HSN
              clear e hxb hno hx1
              go_wp2_with (
                at_builtin
                refine wpList_append_vals _ rfl (.tmp 61) (.tmp 67) _ _ vt rfl (w.heap.size + 1) _ D rfl ((hod.alloc _).alloc _) _ 1 1 [⟨1, (u : Int) - 2, ⟨#[]⟩⟩] rfl (SegV.newAt _ _ _ _ _ _ (by simp) rfl rfl) (by omega) (by simp; omega) ?_
                intro v3 w3 ho3 hg3 _
                obtain ⟨d3, hd3⟩ : ∃ d3, D ++ [⟨1, (u : Int) - 2, ⟨#[]⟩⟩] = d3 := ⟨_, rfl⟩
                have hl3 : d3.length = D.length + 1 := by rw [← hd3]; simp
                have hB3 := below_grownV (Below.refl (w.heap.size + 1) _) ((hod.alloc _).alloc _) hg3 (Nat.le_refl _) (by simp; omega)
                have hbox3 := (hB3.cell (p := ⟨w.heap.size, 1, none⟩) (by simp)).trans (cell_alloc _ (cell_alloc _ hbox))
                have hbw3 : Below w.heap.size w w3 := Below.trans ((hbw.alloc (by have := hbw.size; simp; omega) _).alloc (by have := hbw.size; simp; omega) _) (hB3.mono (by omega))
                have hws3 := hB3.size
                simp at hws3
                rw [hd3] at ho3
                have HD3 := Lib.hid hd3
                have HL3 := Lib.hid hl3
                clear hd3 hg3 hl3 hB3)
              go_roundw
              case rel => exact ⟨k + 1, d3, hlt, by go_num, by rw [← HD3.out, HD.out, HSN.out], by rw [HL3.out, HDL.out], ho3, hbox3, by omega, hbw3⟩
              case measure => simp [intOf]; omega
            · have hx1' : (x.k == 1) = false := by simp [hx1]
              have kc := run_txt wr x true r b (by omega) HRB.out
              have e : fitOne x b = ⟨2, 0, fitTxt b⟩ := fitOne_text hno hx1
              rw [e] at HSN
              clear e hxb hno hx1
              go_wp2_with (
                at_builtin
                refine wpList_append_vals _ rfl (.tmp 36) (.tmp 43) _ _ vt rfl (w.heap.size + 1) _ D rfl (((hod.alloc _).alloc _).alloc _) _ 1 1 [⟨2, 0, fitTxt b⟩] rfl (SegV.newAt _ _ _ _ _ _ (by simp) rfl rfl) (by omega) (by simp; omega) ?_
                intro v3 w3 ho3 hg3 _
                obtain ⟨d3, hd3⟩ : ∃ d3, D ++ [⟨2, 0, fitTxt b⟩] = d3 := ⟨_, rfl⟩
                have hl3 : d3.length = D.length + 1 := by rw [← hd3]; simp
                have hB3 := below_grownV (Below.refl (w.heap.size + 1) _) (((hod.alloc _).alloc _).alloc _) hg3 (Nat.le_refl _) (by simp; omega)
                have hbox3 := (hB3.cell (p := ⟨w.heap.size, 1, none⟩) (by simp)).trans (cell_alloc _ (cell_alloc _ (cell_alloc _ hbox)))
                have hbw3 : Below w.heap.size w w3 := Below.trans (((hbw.alloc (by have := hbw.size; simp; omega) _).alloc (by have := hbw.size; simp; omega) _).alloc (by have := hbw.size; simp; omega) _) (hB3.mono (by omega))
                have hws3 := hB3.size
                simp at hws3
                rw [hd3] at ho3
                have HD3 := Lib.hid hd3
                have HL3 := Lib.hid hl3
                clear hd3 hg3 hl3 hB3)
              go_roundw
              case rel => exact ⟨k + 1, d3, hlt, by go_num, by rw [← HD3.out, HD.out, HSN.out], by rw [HL3.out, HDL.out], ho3, hbox3, by omega, hbw3⟩
              case measure => simp [intOf]; omega
      · have hbq : at0 l k = 0 := by unfold at0; rw [List.getElem?_eq_none (by omega)]; rfl
        rw [hbq] at HSN
        clear hbq
        have hkl' : (m : Int) ≤ (k : Int) := by omega
        have hno : ¬ (x.b = true ∧ 0 % 4 = 3) := by simp
        rcases hxb : x.b with _ | _
        · rw [hxb] at h2
          by_cases hx1 : x.k = 1
          · have hx1' : (x.k == 1) = true := by simp [hx1]
            have e : fitOne x 0 = ⟨1, -2, ⟨#[]⟩⟩ := fitOne_int hno hx1
            rw [e] at HSN
            clear e hxb hno hx1
            go_wp2_with (
              at_builtin
              refine wpList_append_vals _ rfl (.tmp 61) (.tmp 67) _ _ vt rfl (w.heap.size + 1) _ D rfl ((hod.alloc _).alloc _) _ 1 1 [⟨1, -2, ⟨#[]⟩⟩] rfl (SegV.newAt _ _ _ _ _ _ (by simp) rfl rfl) (by omega) (by simp; omega) ?_
              intro v3 w3 ho3 hg3 _
              obtain ⟨d3, hd3⟩ : ∃ d3, D ++ [⟨1, -2, ⟨#[]⟩⟩] = d3 := ⟨_, rfl⟩
              have hl3 : d3.length = D.length + 1 := by rw [← hd3]; simp
              have hB3 := below_grownV (Below.refl (w.heap.size + 1) _) ((hod.alloc _).alloc _) hg3 (Nat.le_refl _) (by simp; omega)
              have hbox3 := (hB3.cell (p := ⟨w.heap.size, 1, none⟩) (by simp)).trans (cell_alloc _ (cell_alloc _ hbox))
              have hbw3 : Below w.heap.size w w3 := Below.trans ((hbw.alloc (by have := hbw.size; simp; omega) _).alloc (by have := hbw.size; simp; omega) _) (hB3.mono (by omega))
              have hws3 := hB3.size
              simp at hws3
              rw [hd3] at ho3
              have HD3 := Lib.hid hd3
              have HL3 := Lib.hid hl3
              clear hd3 hg3 hl3 hB3)
            go_roundw
            case rel => exact ⟨k + 1, d3, hlt, by go_num, by rw [← HD3.out, HD.out, HSN.out], by rw [HL3.out, HDL.out], ho3, hbox3, by omega, hbw3⟩
            case measure => simp [intOf]; omega
          · have hx1' : (x.k == 1) = false := by simp [hx1]
            have kc := run_txt wr x false 0 0 (by omega) rfl
            have e : fitOne x 0 = ⟨2, 0, fitTxt 0⟩ := fitOne_text hno hx1
            rw [e] at HSN
            clear e hxb hno hx1
            go_wp2_with (
              at_builtin
              refine wpList_append_vals _ rfl (.tmp 36) (.tmp 43) _ _ vt rfl (w.heap.size + 1) _ D rfl (((hod.alloc _).alloc _).alloc _) _ 1 1 [⟨2, 0, fitTxt 0⟩] rfl (SegV.newAt _ _ _ _ _ _ (by simp) rfl rfl) (by omega) (by simp; omega) ?_
              intro v3 w3 ho3 hg3 _
              obtain ⟨d3, hd3⟩ : ∃ d3, D ++ [⟨2, 0, fitTxt 0⟩] = d3 := ⟨_, rfl⟩
              have hl3 : d3.length = D.length + 1 := by rw [← hd3]; simp
              have hB3 := below_grownV (Below.refl (w.heap.size + 1) _) (((hod.alloc _).alloc _).alloc _) hg3 (Nat.le_refl _) (by simp; omega)
              have hbox3 := (hB3.cell (p := ⟨w.heap.size, 1, none⟩) (by simp)).trans (cell_alloc _ (cell_alloc _ (cell_alloc _ hbox)))
              have hbw3 : Below w.heap.size w w3 := Below.trans (((hbw.alloc (by have := hbw.size; simp; omega) _).alloc (by have := hbw.size; simp; omega) _).alloc (by have := hbw.size; simp; omega) _) (hB3.mono (by omega))
              have hws3 := hB3.size
              simp at hws3
              rw [hd3] at ho3
              have HD3 := Lib.hid hd3
              have HL3 := Lib.hid hl3
              clear hd3 hg3 hl3 hB3)
            go_roundw
            case rel => exact ⟨k + 1, d3, hlt, by go_num, by rw [← HD3.out, HD.out, HSN.out], by rw [HL3.out, HDL.out], ho3, hbox3, by omega, hbw3⟩
            case measure => simp [intOf]; omega
        · rw [hxb] at h2
          by_cases hx1 : x.k = 1
          · have hx1' : (x.k == 1) = true := by simp [hx1]
            have e : fitOne x 0 = ⟨1, -2, ⟨#[]⟩⟩ := fitOne_int hno hx1
            rw [e] at HSN
            clear e hxb hno hx1
            go_wp2_with (
              at_builtin
              refine wpList_append_vals _ rfl (.tmp 61) (.tmp 67) _ _ vt rfl (w.heap.size + 1) _ D rfl ((hod.alloc _).alloc _) _ 1 1 [⟨1, -2, ⟨#[]⟩⟩] rfl (SegV.newAt _ _ _ _ _ _ (by simp) rfl rfl) (by omega) (by simp; omega) ?_
              intro v3 w3 ho3 hg3 _
              obtain ⟨d3, hd3⟩ : ∃ d3, D ++ [⟨1, -2, ⟨#[]⟩⟩] = d3 := ⟨_, rfl⟩
              have hl3 : d3.length = D.length + 1 := by rw [← hd3]; simp
              have hB3 := below_grownV (Below.refl (w.heap.size + 1) _) ((hod.alloc _).alloc _) hg3 (Nat.le_refl _) (by simp; omega)
              have hbox3 := (hB3.cell (p := ⟨w.heap.size, 1, none⟩) (by simp)).trans (cell_alloc _ (cell_alloc _ hbox))
              have hbw3 : Below w.heap.size w w3 := Below.trans ((hbw.alloc (by have := hbw.size; simp; omega) _).alloc (by have := hbw.size; simp; omega) _) (hB3.mono (by omega))
              have hws3 := hB3.size
              simp at hws3
              rw [hd3] at ho3
              have HD3 := Lib.hid hd3
              have HL3 := Lib.hid hl3
              clear hd3 hg3 hl3 hB3)
            go_roundw
            case rel => exact ⟨k + 1, d3, hlt, by go_num, by rw [← HD3.out, HD.out, HSN.out], by rw [HL3.out, HDL.out], ho3, hbox3, by omega, hbw3⟩
            case measure => simp [intOf]; omega
          · have hx1' : (x.k == 1) = false := by simp [hx1]
            have kc := run_txt wr x true 0 0 (by omega) rfl
            have e : fitOne x 0 = ⟨2, 0, fitTxt 0⟩ := fitOne_text hno hx1
            rw [e] at HSN
            clear e hxb hno hx1
            go_wp2_with (
              at_builtin
              refine wpList_append_vals _ rfl (.tmp 36) (.tmp 43) _ _ vt rfl (w.heap.size + 1) _ D rfl (((hod.alloc _).alloc _).alloc _) _ 1 1 [⟨2, 0, fitTxt 0⟩] rfl (SegV.newAt _ _ _ _ _ _ (by simp) rfl rfl) (by omega) (by simp; omega) ?_
              intro v3 w3 ho3 hg3 _
              obtain ⟨d3, hd3⟩ : ∃ d3, D ++ [⟨2, 0, fitTxt 0⟩] = d3 := ⟨_, rfl⟩
              have hl3 : d3.length = D.length + 1 := by rw [← hd3]; simp
              have hB3 := below_grownV (Below.refl (w.heap.size + 1) _) (((hod.alloc _).alloc _).alloc _) hg3 (Nat.le_refl _) (by simp; omega)
              have hbox3 := (hB3.cell (p := ⟨w.heap.size, 1, none⟩) (by simp)).trans (cell_alloc _ (cell_alloc _ (cell_alloc _ hbox)))
              have hbw3 : Below w.heap.size w w3 := Below.trans (((hbw.alloc (by have := hbw.size; simp; omega) _).alloc (by have := hbw.size; simp; omega) _).alloc (by have := hbw.size; simp; omega) _) (hB3.mono (by omega))
              have hws3 := hB3.size
              simp at hws3
              rw [hd3] at ho3
              have HD3 := Lib.hid hd3
              have HL3 := Lib.hid hl3
              clear hd3 hg3 hl3 hB3)
            go_roundw
            case rel => exact ⟨k + 1, d3, hlt, by go_num, by rw [← HD3.out, HD.out, HSN.out], by rw [HL3.out, HDL.out], ho3, hbox3, by omega, hbw3⟩
            case measure => simp [intOf]; omega
    · have hkq : k = q := by omega
      subst hkq
      go_wp2
      go_ret
      refine ⟨_, rfl, ?_, hbw⟩
      rw [← HD.out]
      exact hod.mono (by omega)

end Go.Proofs.Ytcmagjeplofagaa
