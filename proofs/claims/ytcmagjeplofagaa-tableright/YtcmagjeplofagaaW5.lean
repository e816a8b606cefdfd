/-
  The walk of the program's Decode.
-/
import Derived.Test.YtcmagjeplofagaaW4
import Derived.Deep.RegionHeld3
import Derived.Deep.DeepCutAuto
namespace Go.Proofs.Ytcmagjeplofagaa
open Go.RowKit

set_option maxHeartbeats 400000 in
theorem clone_any (A : Option Addr) (n c : Nat) (l : List UInt8) (w : World) (ha : Seg w A n l) (hn : n ≤ 1099511627776) :
    Calls Try.prog 66 #[.slice A n c] w fun e w' => ∃ v, e = .returned v ∧ Own w' w.heap.size 5 v l ∧ Below w.heap.size w w' := by
  rcases A with _ | a
  · have h0 : n = 0 := by
      rcases Nat.eq_zero_or_pos n with h | h
      · exact h
      · obtain ⟨g, o, e, _⟩ := ha.2 h; cases e
    subst h0
    have hl : l = [] := List.eq_nil_of_length_eq_zero ha.1
    subst hl
    have keq := fun w => Lib.run_eql_slice_nil (P := Try.prog) w 31 5 none 0 c 0 0 Try.underlying31
    go_enter Try.func66, Try.ntmps66
    go_wp2
    go_ret
    exact ⟨_, rfl, Own.nil _ _ _, Below.refl _ _⟩
  · have keq := fun w => Lib.run_eql_slice_nil (P := Try.prog) w 31 5 (some a) n c 0 0 Try.underlying31
    go_enter Try.func66, Try.ntmps66
    go_wp2_with (at_builtin
                 refine wpList_append_seg _ rfl (.tmp 5) (.tmp 6) _ _ bt rfl w.heap.size _ [] rfl (Own.new w _ _ [] (Nat.le_refl _) (by simp [maxLen])) _ n c l rfl (ha.alloc _) (by simp; omega) (by simp) ?_
                 intro v1 w1 hown1 hg1 hat1)
    go_ret
    exact ⟨_, rfl, by simpa using hown1, below_grown ((Below.refl _ _).alloc (Nat.le_refl _) _) (Own.new w _ _ [] (Nat.le_refl _) (by simp [maxLen])) hg1 (Nat.le_refl _) (by simp)⟩

/-- What Decode answers: the value, a copy of what stands behind it, the error. -/
def DecP (w : World) (l : List UInt8) (e : Ending) (w' : World) : Prop :=
  ∃ v, e = .returned (.tuple #[.agg #[.int .u8 (dec l).1.k, .int .i64 (dec l).1.n, .string (dec l).1.s], v, .int .i64 (dec l).2.2]) ∧ Own w' w.heap.size 5 v (if (dec l).2.2 = 0 then l.drop (dec l).2.1 else []) ∧ Below w.heap.size w w'

/-- Where the ways through Decode's one call meet again. -/
def DecCut (w : World) (o : Obj) (R : V × Nat × Int) (A : Option Addr) (n : Nat) (l : List UInt8) (p r x : Value) (wc : World) : Prop :=
  ∃ q A' n' c', p = .pointer (some ⟨q, 0, none⟩) ∧ w.heap.size < q ∧ wc.cell? ⟨q, 0, none⟩ = some (.int .u8 R.1.k) ∧ wc.cell? ⟨q, 1, none⟩ = some (.int .i64 R.1.n) ∧ wc.cell? ⟨q, 2, none⟩ = some (.string R.1.s) ∧
    r = .slice A' n' c' ∧ x = .int .i64 R.2.2 ∧ (∀ W, Seg W A n l → Seg W A' n' (if R.2.2 = 0 then l.drop R.2.1 else [])) ∧ n' ≤ c' ∧ c' ≤ maxLen ∧ Below (w.heap.size + 1) (w.alloc o) wc

set_option maxHeartbeats 1000000 in
theorem decode_any (A : Option Addr) (n c : Nat) (l : List UInt8) (w : World) (ha : Seg w A n l) (hnc : n ≤ c) (hcm : c ≤ maxLen) (hn : n ≤ 1099511627776) :
    Calls Try.prog 51 #[.slice A n c] w (DecP w l) := by
  rcases l with _ | ⟨b, l⟩
  · have h0 : n = 0 := ha.1.symm
    subst h0
    go_enter Try.func51, Try.ntmps51
    go_wp2
    refine bodyPost_ret (v := .tuple #[.agg #[.int .u8 0, .int .i64 0, .string ⟨#[]⟩], .slice none 0 0, .int .i64 3]) (by simp [results, Try.results51, go_sem]) rfl ⟨_, rfl, Own.nil _ _ _, ?_⟩
    exact (Below.refl _ _).alloc (Nat.le_refl _) _
  · have hl := ha.1
    rw [List.length_cons] at hl
    have h1 : 1 ≤ n := by omega
    have hp : (0 : Int) < (n : Int) := by omega
    have hne : ((n : Int) == 0) = false := by rw [beq_eq_false_iff_ne]; omega
    obtain ⟨g, o, rfl, hc⟩ := ha.at_ (k := 0) (by omega)
    rw [Nat.add_zero] at hc
    simp only [List.getElem_cons_zero] at hc
    have hg : g < w.heap.size := World.block_lt_of_cell? w _ hc
    have hg1 : ¬ w.heap.size = g := by omega
    have hg2 : ¬ w.heap.size + 1 = g := by omega
    have h0n : 0 < n := by omega
    have h1n : (1 : Int) ≤ (n : Int) := by omega
    have hne' := World.new_ne w _ hc
    obtain ⟨A1, hA1, hseg⟩ : ∃ A1, (if c = 1 then some (⟨g, o, none⟩ : Addr) else some ⟨g, o + 1, none⟩) = A1 ∧ ∀ W, Seg W (some ⟨g, o, none⟩) n (b :: l) → Seg W A1 (n - 1) l := ⟨_, rfl, fun W h => h.from_ 1 c h1 hnc⟩
    have HL := Lib.hid hl
    have HSEG := Lib.hid hseg
    clear hl hseg
    unfold maxLen at hcm
    go_enter Try.func51, Try.ntmps51
    go_wp2
    go_cut [5, 6, 7] (fun p r x wc => DecCut w (.cells #[.int .u8 0, .int .i64 0, .string ⟨#[]⟩] 41) (decKind b l) A1 (n - 1) l p r x wc)
    case first =>
      go_region_held3 (fun W => W.cell? ⟨g, o, none⟩ = some (.int .u8 (b.toNat : Int))) (go_keep)
        (first | (go_at_call 65; refine (decodeKind_any b A1 (n - 1) (c - 1) l _ ?_ ?_ ?_).mono ?_; (first | exact HSEG.out _ ((ha.alloc _).drew) | exact HSEG.out _ (((ha.alloc _).alloc _).drew)); omega; (unfold maxLen; omega); rintro e w1 ⟨A', n', c', rfl, hs, hnc', hcm', hb⟩; obtain ⟨hc0, hc1, hc2, hfr, hsz⟩ := box3d hb; (try simp only [World.size_alloc] at hc0 hc1 hc2 hfr hsz); have HS := Lib.hid hs; clear hs; have hcc : w1.cell? ⟨g, o, none⟩ = some (.int .u8 (b.toNat : Int)) := (hb.cell (p := ⟨g, o, none⟩) (by simp; omega)).trans (by go_keep)))
      all_goals go_wp2_with fail
      all_goals go_meet
      · refine ⟨_, A', n', c', rfl, hsz, ?_, ?_, ?_, rfl, rfl, HS.out, hnc', hcm', ?_⟩
        · simp
        · simp
        · simp
        · exact ((Below.undrew hb).mono (by simp)).alloc hsz _
      · refine ⟨_, A', n', c', rfl, by omega, ?_, ?_, ?_, rfl, rfl, HS.out, hnc', hcm', ?_⟩
        · simp [hc0, go_sem]
        · simp [hc1, go_sem]
        · simp [hc2, go_sem]
        · refine Below.setCell (Below.setCell (Below.setCell ?_ (by simp) _) (by simp) _) (by simp) _
          exact (((Below.refl _ _).alloc (by simp) _).drew).trans (hb.mono (by simp))
    case rest =>
      obtain ⟨q, A', n', c', rfl, hq, hq0, hq1, hq2, rfl, rfl, hs, hnc', hcm', hb⟩ := hcut
      generalize hR : decKind b l = R at *
      have HR := Lib.hid hR
      have HS := Lib.hid hs
      clear hR hs
      obtain ⟨hr0, hr1, hr2, hfr, hsz⟩ := box3B hb (by omega)
      by_cases h0 : R.2.2 = 0
      · have hd : dec (b :: l) = (R.1, R.2.1 + 1, R.2.2) := by
          show ((decKind b l).1, _, _) = _
          rw [HR.out, if_pos h0]
        have hb0 : (R.2.2 != 0) = false := by rw [h0]; rfl
        have hsg : Seg wc A' n' (l.drop R.2.1) := by
          have := HS.out wc (HSEG.out wc ((ha.alloc _).below (hb.mono (by simp))))
          rw [if_pos h0] at this
          exact this
        have hqs : q < wc.heap.size := World.block_lt_of_cell? wc _ hq0
        have hqn : ¬ w.heap.size = q := by omega
        have hn' : n' ≤ 1099511627776 := by
          have h1 := hsg.1
          have h2 := HL.out
          rw [List.length_drop] at h1
          omega
        have H0 := Lib.hid h0
        have HD := Lib.hid hd
        clear h0 hd hc hg hg1 hg2 hne' hA1 hp hne
        go_wp2
        go_region_held3 (fun W => W.cell? ⟨q, 0, none⟩ = some (.int .u8 R.1.k) ∧ W.cell? ⟨q, 1, none⟩ = some (.int .i64 R.1.n) ∧ W.cell? ⟨q, 2, none⟩ = some (.string R.1.s)) (go_keep)
          (first | (go_at_call 66; refine (clone_any A' n' c' (l.drop R.2.1) _ ?_ hn').mono ?_; exact hsg.drew; rintro e w1 ⟨v, rfl, hov, hbv⟩; obtain ⟨hvc, hvf, hvs⟩ := bcellD hbv))
        go_wp2
        refine bodyPost_ret (v := .tuple #[.agg #[.int .u8 R.1.k, .int .i64 R.1.n, .string R.1.s], v, .int .i64 0]) (by simp [results, Try.results51, go_sem, hvc, hsz, hr0, hr1, hr2]) rfl ⟨v, by rw [HD.out, H0.out], ?_, ?_⟩
        · rw [HD.out, if_pos H0.out, List.drop_succ_cons]
          refine Own.mono (base := wc.heap.size) ?_ (by omega)
          exact ((Own.setCell hov hsz _).setCell hsz _).setCell hsz _
        · refine Below.setCell (Below.setCell (Below.setCell ?_ (by simp) _) (by simp) _) (by simp) _
          exact (((Below.refl _ _).alloc (Nat.le_refl _) _).trans (hb.mono (by omega))).trans ((Below.undrew hbv).mono (show w.heap.size ≤ wc.heap.size by omega))
      · have hd : dec (b :: l) = (V.none, 0, R.2.2) := by
          show ((decKind b l).1, _, _) = _
          rw [decKind_err b l (by rw [HR.out]; exact h0), HR.out, if_neg h0]
        have hb0 : (R.2.2 != 0) = true := by rw [bne_iff_ne]; exact h0
        have HD := Lib.hid hd
        clear hd
        go_wp2
        refine bodyPost_ret (v := .tuple #[.agg #[.int .u8 0, .int .i64 0, .string ⟨#[]⟩], .slice none 0 0, .int .i64 R.2.2]) (by simp [results, Try.results51, go_sem, hr0, hr1, hr2]) rfl ⟨_, by rw [HD.out]; rfl, ?_, ?_⟩
        · rw [HD.out, if_neg h0]; exact Own.nil _ _ _
        · refine Below.setCell (Below.setCell (Below.setCell ?_ (by simp) _) (by simp) _) (by simp) _
          exact ((Below.refl _ _).alloc (Nat.le_refl _) _).trans (hb.mono (by omega))

end Go.Proofs.Ytcmagjeplofagaa
